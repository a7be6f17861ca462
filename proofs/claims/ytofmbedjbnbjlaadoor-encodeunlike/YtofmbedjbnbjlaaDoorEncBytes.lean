/-
  What Bytes of package encode answers: an icon's bytes, or Check's error: walked over the program.
-/
import Derived.Test.YtofmbedjbnbjlaaDoorEncIcon
import Derived.Test.YtofmbedjbnbjlaaDoorIconFirst
namespace Go.Proofs.YtofmbedjbnbjlaaDoor
open Go.RowKit

theorem own_mono {w : World} {B C : Nat} {e : TypeId} {size : Nat} {v : Value} {n : Nat} {xs : List Value} (h : w.ownsRow B e size v n xs) (hC : C ≤ B) : w.ownsRow C e size v n xs := by
  refine ⟨h.1, ?_⟩
  rcases h.2 with h | ⟨g, c, cur, h1, h2, h3⟩
  · exact .inl h
  · exact .inr ⟨g, c, cur, h1, by omega, h3⟩

set_option maxRecDepth 20000 in
set_option maxHeartbeats 1000000 in
theorem bytes_ok (A : Nat → Addr) (i : IC.Icon) (w : World) (hE : Errs3 w A) (hi : IconOk w i) (hc : ∀ c ∈ i.cols, ColIn c) (h0 : IC.chk i = 0) :
    Calls Tryd.prog 12 #[.agg i.cells.toArray] w fun e w' => (∃ ad cap, e = .returned (.tuple #[.slice ad (EP.icon i).length cap, .nilIface]) ∧ w'.ownsRow w.heap.size 5 1 (.slice ad (EP.icon i).length cap) (EP.icon i).length (vals (EP.icon i))) ∧ Below w.heap.size w w' := by
  have hb := icon_chk h0
  have kC : Hid (∀ W, Below w.heap.size w W → Calls Tryd.prog 24 #[.agg i.cells.toArray] W fun e w' => e = .returned .nilIface ∧ Below W.heap.size W w') := fun W hbw => by
    have := check_any A i W (hE.below hbw) (hi.below hbw)
    rw [h0] at this
    exact this
  have kW : Hid (∀ W q, Wr W q [] → Below w.heap.size w W → Calls Tryd.prog 36 #[.pointer (some ⟨q, 0, none⟩), .agg i.cells.toArray] W fun e w' => e = .returned (.tuple #[]) ∧ Wr w' q (EP.icon i) ∧ Wk q W w') := fun W q hW hbw => wicon_any q i W hW (hi.below hbw) hc hb
  obtain ⟨adc, capc, hvc, -, -⟩ := Many.len hi.1
  obtain ⟨adm, capm, hvm, -, -⟩ := Many.len hi.2.1
  obtain ⟨iw, ih, is, vc, cols, vm, cmds⟩ := i
  replace hvc : vc = .slice adc cols.length capc := hvc
  replace hvm : vm = .slice adm cmds.length capm := hvm
  generalize EP.icon ⟨iw, ih, is, vc, cols, vm, cmds⟩ = full at kW ⊢
  generalize cols.length = nc at hvc
  generalize cmds.length = nm at hvm
  subst hvc
  subst hvm
  clear hE hi hc h0 hb
  simp only [IC.Icon.cells] at kC kW ⊢
  go_enter Tryd.func12, Tryd.ntmps12
  go_wp2_with (first
    | (go_at_call 24; refine (kC.out _ ((Below.refl _ _).alloc (Nat.le_refl _) _)).mono ?_; rintro e w1 ⟨rfl, hb1⟩
       have B1 : Hid (Below w.heap.size w w1) := ((Below.refl _ _).alloc (Nat.le_refl _) _).trans (hb1.mono (by simp))
       have hX : Blk w1 w.heap.size 30 #[.int .i64 iw, .int .i64 ih, .int .i64 is, .slice adc nc capc, .slice adm nm capm] := (blk_new w 30 _).below hb1 (by simp)
       obtain ⟨x0, x1, x2, x3, x4⟩ := five_cells hX
       have z1 := hX.lt
       clear hb1 hX)
    | (go_at_call 36; refine (kW.out _ w1.heap.size ⟨none, 0, blk_new w1 87 _, World.ownsRow_nil _ _ _ _⟩ (B1.out.alloc B1.out.size _)).mono ?_; rintro e w2 ⟨rfl, h2, hk2⟩
       have B2 : Hid (Below w.heap.size w w2) := (B1.out.alloc B1.out.size _).trans (hk2.low B1.out.size (by simp))
       obtain ⟨ad, cap, hq, ho⟩ := h2
       have c0 : w2.cell? ⟨w1.heap.size, 0, none⟩ = some (.slice ad full.length cap) := hq.cell 0
       have HO : Hid (w2.ownsRow (w1.heap.size + 1) 5 1 (.slice ad full.length cap) full.length (vals full)) := ho
       clear hk2 hq ho))
  go_ret2
  exact ⟨⟨ad, cap, rfl, own_mono HO.out (by have := B1.out.size; omega)⟩, B2.out⟩

set_option maxRecDepth 20000 in
set_option maxHeartbeats 1000000 in
theorem bytes_bad (A : Nat → Addr) (i : IC.Icon) (c : Nat) (w : World) (hE : Errs3 w A) (hi : IconOk w i) (h0 : IC.chk i = c + 1) :
    Calls Tryd.prog 12 #[.agg i.cells.toArray] w fun e w' => e = .returned (.tuple #[.slice none 0 0, errv A (c + 1)]) ∧ Below w.heap.size w w' := by
  have kC : Hid (∀ W, Below w.heap.size w W → Calls Tryd.prog 24 #[.agg i.cells.toArray] W fun e w' => e = .returned (.iface 154 (.pointer (some (A c)))) ∧ Below W.heap.size W w') := fun W hbw => by
    have := check_any A i W (hE.below hbw) (hi.below hbw)
    rw [h0] at this
    exact this
  obtain ⟨adc, capc, hvc, -, -⟩ := Many.len hi.1
  obtain ⟨adm, capm, hvm, -, -⟩ := Many.len hi.2.1
  obtain ⟨iw, ih, is, vc, cols, vm, cmds⟩ := i
  replace hvc : vc = .slice adc cols.length capc := hvc
  replace hvm : vm = .slice adm cmds.length capm := hvm
  generalize cols.length = nc at hvc
  generalize cmds.length = nm at hvm
  subst hvc
  subst hvm
  clear hE hi h0
  simp only [IC.Icon.cells] at kC ⊢
  go_enter Tryd.func12, Tryd.ntmps12
  go_wp2_with (go_at_call 24; refine (kC.out _ ((Below.refl _ _).alloc (Nat.le_refl _) _)).mono ?_; rintro e w1 ⟨rfl, hb1⟩
               have B1 : Hid (Below w.heap.size w w1) := ((Below.refl _ _).alloc (Nat.le_refl _) _).trans (hb1.mono (by simp))
               clear hb1)
  all_goals
    go_ret2
    exact ⟨rfl, B1.out⟩

end Go.Proofs.YtofmbedjbnbjlaaDoor

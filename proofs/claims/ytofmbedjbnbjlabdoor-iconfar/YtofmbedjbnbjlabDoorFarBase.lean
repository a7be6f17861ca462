/-
  What the walks of IconFar lean on.
-/
import Derived.Test.YtofmbedjbnbjlabDoorFarPlain
import Derived.Test.YtofmbedjbnbjlabDoorIconRow
import Derived.Test.YtofmbedjbnbjlabDoorIconFirst
import Derived.Test.YtofmbedjbnbjlabDoorErrSee
namespace Go.Proofs.YtofmbedjbnbjlabDoor
open Go.RowKit

theorem Errs13.three'' {w : World} {A : Nat → Addr} (h : Errs13 w A) : Errs3 w A := fun i hi => ⟨(h i (by omega)).1, (h i (by omega)).2.1⟩

theorem far_g {i : IC.Icon} (h : Good i) : 4 ≤ IC.greatest i ∧ IC.greatest i ≤ 6144 := by
  have h0 := h.w
  have h1 := h.h
  have h2 := h.s
  unfold IC.greatest
  rw [if_pos h.sized]
  have hm : 1 ≤ max i.w i.h ∧ max i.w i.h ≤ 24 := by rw [Int.max_def]; split <;> omega
  generalize max i.w i.h = x at hm
  have hs : i.s.toNat = 0 ∨ i.s.toNat = 1 ∨ i.s.toNat = 2 ∨ i.s.toNat = 3 ∨ i.s.toNat = 4 ∨ i.s.toNat = 5 ∨ i.s.toNat = 6 := by omega
  rcases hs with e | e | e | e | e | e | e <;> rw [e] <;> simp only [Int.reducePow] <;> omega

theorem far_long (A : Nat → Addr) (a : Option Addr) (len cap : Nat) (n : Int) (ov : Bool) (w : World) (hE : Errs13 w A) (hl : 200 < len) (hm : len ≤ 9223372036854775807) :
    Calls Tryd.prog 3 #[.slice a len cap, .int .i64 n, .bool ov] w fun e w' => e = .returned (.bool true) ∧ Below w.heap.size w w' := by
  have kf : Hid (∀ W, Below w.heap.size w W → Calls Tryd.prog 4 #[] W fun e w' => e = .returned (.bool true) ∧ Below W.heap.size W w') := fun W hb => first_any A W (hE.three''.below hb)
  clear hE
  have hli : (200 : Int) < (len : Int) := by omega
  go_enter Tryd.func3, Tryd.ntmps3
  go_wp2_with (go_at_call 4; refine (kf.out _ (Below.refl _ _)).mono ?_; rintro e w1 ⟨rfl, hb1⟩)
  go_ret
  exact ⟨rfl, hb1⟩

/-- The icon that stands behind the copies: its lists are the call's own, all else is as it was. -/
structure FarSt (w2 : World) (ib gm gp gs : Nat) (cm cp cs : Nat) (head : Array Value) (front : List IC.Cmd) (c : IC.Cmd) (p : IC.Path) (prest : List IC.Path) (sl : List IC.Seg) (W : World) : Prop where
  icon : Blk W ib 27 head
  om : Own W w2.heap.size 41 11 IC.Cmd.cells (some ⟨gm, 0, none⟩) cm (front ++ [c])
  op : Own W w2.heap.size 46 4 IC.Path.cells (some ⟨gp, 0, none⟩) cp (p :: prest)
  os : Own W w2.heap.size 51 7 IC.Seg.cells (some ⟨gs, 0, none⟩) cs sl
  low : Below w2.heap.size w2 W

theorem FarSt.ok {w2 W : World} {ib gm gp gs cm cp cs m np ns : Nat} {a0 a1 a2 k r wd sx sy : Int} {vc vm vp : Value} {cols : List IC.Col} {front : List IC.Cmd} {pn : IC.Paint} {p0 : IC.Path} {prest : List IC.Path} {sl vsl : List IC.Seg} {cl : Bool} {head : Array Value}
    (hi : IconOk w2 ⟨a0, a1, a2, vc, cols, vm, front ++ [⟨k, r, wd, pn, vp, p0 :: prest⟩]⟩) (hm : front.length + 1 = m) (hp : prest.length + 1 = np) (hs : sl.length = ns)
    (h : FarSt w2 ib gm gp gs cm cp cs head front ⟨k, r, wd, pn, .slice (some ⟨gp, 0, none⟩) np cp, p0 :: prest⟩ ⟨⟨sx, sy⟩, .slice (some ⟨gs, 0, none⟩) ns cs, vsl, cl⟩ prest sl W) (hv : vsl = sl) :
    IconOk W ⟨a0, a1, a2, vc, cols, .slice (some ⟨gm, 0, none⟩) m cm, front ++ [⟨k, r, wd, pn, .slice (some ⟨gp, 0, none⟩) np cp, ⟨⟨sx, sy⟩, .slice (some ⟨gs, 0, none⟩) ns cs, sl, cl⟩ :: prest⟩]⟩ := by
  subst hv
  have hi' := hi.below h.low
  obtain ⟨i1, i2, i3⟩ := hi'
  have hM := h.om.many
  refine ⟨i1, ?_, fun c' hc' => ?_⟩
  · have e1 : (front ++ [(⟨k, r, wd, pn, .slice (some ⟨gp, 0, none⟩) np cp, p0 :: prest⟩ : IC.Cmd)]).length = m := by simp [hm]
    have e2 : (front ++ [(⟨k, r, wd, pn, .slice (some ⟨gp, 0, none⟩) np cp, ⟨⟨sx, sy⟩, .slice (some ⟨gs, 0, none⟩) ns cs, vsl, cl⟩ :: prest⟩ : IC.Cmd)]).length = m := by simp [hm]
    unfold Many at hM ⊢
    show Row W _ _ _ (front ++ [(⟨k, r, wd, pn, .slice (some ⟨gp, 0, none⟩) np cp, ⟨⟨sx, sy⟩, .slice (some ⟨gs, 0, none⟩) ns cs, vsl, cl⟩ :: prest⟩ : IC.Cmd)]).length _
    rw [e1] at hM
    rw [e2]
    have e3 : (front ++ [(⟨k, r, wd, pn, .slice (some ⟨gp, 0, none⟩) np cp, ⟨⟨sx, sy⟩, .slice (some ⟨gs, 0, none⟩) ns cs, vsl, cl⟩ :: prest⟩ : IC.Cmd)]).flatMap IC.Cmd.cells = (front ++ [(⟨k, r, wd, pn, .slice (some ⟨gp, 0, none⟩) np cp, p0 :: prest⟩ : IC.Cmd)]).flatMap IC.Cmd.cells := by
      rw [List.flatMap_append, List.flatMap_append]
      rfl
    rw [e3]
    exact hM
  · rcases List.mem_append.1 hc' with hc' | hc'
    · exact i3 c' (List.mem_append.2 (.inl hc'))
    · obtain rfl := List.mem_singleton.1 hc'
      obtain ⟨j1, j2⟩ := i3 _ (List.mem_append.2 (.inr (List.mem_singleton.2 rfl)))
      refine ⟨?_, fun p hp' => ?_⟩
      · have := h.op.many
        rw [List.length_cons, hp] at this
        exact this
      · rcases List.mem_cons.1 hp' with rfl | hp'
        · have := h.os.many
          rw [hs] at this
          exact this
        · exact j2 p (List.mem_cons.2 (.inr hp'))

theorem own_someF {α : Type} {w : World} {B : Nat} {t : TypeId} {size : Nat} {f : α → List Value} {ad : Option Addr} {cap : Nat} {l : List α} (h : Own w B t size f ad cap l) (hl : 0 < l.length) : ∃ g, ad = some ⟨g, 0, none⟩ ∧ B ≤ g ∧ g < w.heap.size ∧ l.length ≤ cap ∧ cap ≤ maxLen := by
  rcases h.2 with ⟨_, h2⟩ | ⟨g, c, cur, h1, h2, h3, h4, h5, _⟩
  · omega
  · cases h1
    exact ⟨g, rfl, h2, (Array.getElem?_eq_some_iff.1 h3).1, h4, h5⟩
theorem Own.base {α : Type} {w : World} {B C : Nat} {t : TypeId} {size : Nat} {f : α → List Value} {ad : Option Addr} {cap : Nat} {l : List α} (h : Own w B t size f ad cap l) (hC : C ≤ B) : Own w C t size f ad cap l := by
  refine ⟨h.1, ?_⟩
  rcases h.2 with h | ⟨g, c, cur, h1, h2, h3⟩
  · exact .inl h
  · exact .inr ⟨g, c, cur, h1, by omega, h3⟩
theorem FarSt.drew {w2 : World} {ib gm gp gs cm cp cs : Nat} {head : Array Value} {front : List IC.Cmd} {c : IC.Cmd} {p : IC.Path} {prest : List IC.Path} {sl : List IC.Seg} {W : World} (h : FarSt w2 ib gm gp gs cm cp cs head front c p prest sl W) (d : Nat) : FarSt w2 ib gm gp gs cm cp cs head front c p prest sl (W.drewN d) := ⟨h.icon, h.om, h.op, h.os, below_drewN h.low d⟩
/-- A store into the first path. -/
theorem FarSt.setP {w2 : World} {ib gm gp gs cm cp cs : Nat} {head : Array Value} {front : List IC.Cmd} {c : IC.Cmd} {p p' : IC.Path} {prest : List IC.Path} {sl : List IC.Seg} {W : World} (h : FarSt w2 ib gm gp gs cm cp cs head front c p prest sl W) (j : Nat) (hj : j < 4) (u : Value) (hx : p.cells.set j u = p'.cells) : FarSt w2 ib gm gp gs cm cp cs head front c p' prest sl (W.setCell ⟨gp, j, none⟩ u) := by
  obtain ⟨cur, hc⟩ := h.op.blk
  have hi := h.icon
  have hg : w2.heap.size ≤ gp := by have := (h.op.lt ⟨gp, 0, none⟩ rfl).1; exact this
  refine ⟨h.icon.far (fun e => ?_) u, h.om.far hc (by decide) j u, own_head_set path_len h.op j hj u hx, h.os.far hc (by decide) j u, h.low.setCell hg u⟩
  have e' : ib = gp := e
  unfold Blk at hi
  rw [e', hc] at hi
  cases hi
/-- A store into the last segment. -/
theorem FarSt.setS {w2 : World} {ib gm gp gs cm cp cs : Nat} {head : Array Value} {front : List IC.Cmd} {c : IC.Cmd} {p : IC.Path} {prest : List IC.Path} {sf : List IC.Seg} {s s' : IC.Seg} {W : World} (h : FarSt w2 ib gm gp gs cm cp cs head front c p prest (sf ++ [s]) W) (q j : Nat) (hq : sf.length = q) (u : Value) (hx : s.cells.set j u = s'.cells) : FarSt w2 ib gm gp gs cm cp cs head front c p prest (sf ++ [s']) (W.setCell ⟨gs, q * 7 + j, none⟩ u) := by
  subst hq
  obtain ⟨cur, hc⟩ := h.os.blk
  have hi := h.icon
  have hg : w2.heap.size ≤ gs := by have := (h.os.lt ⟨gs, 0, none⟩ rfl).1; exact this
  refine ⟨h.icon.far (fun e => ?_) u, h.om.far hc (by decide) _ u, h.op.far hc (by decide) _ u, own_last_set seg_len h.os j u hx, h.low.setCell hg u⟩
  have e' : ib = gs := e
  unfold Blk at hi
  rw [e', hc] at hi
  cases hi

theorem FarSt.ok2 {w2 W : World} {ib gm gp gs cm cp cs m np ns : Nat} {a0 a1 a2 k r wd sx sy : Int} {vc vm vp : Value} {cols : List IC.Col} {front : List IC.Cmd} {pn : IC.Paint} {p0 : IC.Path} {prest : List IC.Path} {sl vsl : List IC.Seg} {cl : Bool} {head : Array Value}
    (hi : IconOk w2 ⟨a0, a1, a2, vc, cols, vm, front ++ [⟨k, r, wd, pn, vp, p0 :: prest⟩]⟩) (hm : front.length + 1 = m) (hp : prest.length + 1 = np) (hs : sl.length = ns)
    (h : FarSt w2 ib gm gp gs cm cp cs head front ⟨k, r, wd, pn, .slice (some ⟨gp, 0, none⟩) np cp, p0 :: prest⟩ ⟨⟨sx, sy⟩, .slice (some ⟨gs, 0, none⟩) ns cs, vsl, cl⟩ prest sl W) :
    IconOk W ⟨a0, a1, a2, vc, cols, .slice (some ⟨gm, 0, none⟩) m cm, front ++ [⟨k, r, wd, pn, .slice (some ⟨gp, 0, none⟩) np cp, ⟨⟨sx, sy⟩, .slice (some ⟨gs, 0, none⟩) ns cs, sl, cl⟩ :: prest⟩]⟩ := by
  have h' : FarSt w2 ib gm gp gs cm cp cs head front ⟨k, r, wd, pn, .slice (some ⟨gp, 0, none⟩) np cp, p0 :: prest⟩ ⟨⟨sx, sy⟩, .slice (some ⟨gs, 0, none⟩) ns cs, sl, cl⟩ prest sl W := ⟨h.icon, h.om, h.op, h.os, h.low⟩
  exact h'.ok hi hm hp hs rfl

theorem path_bad_st {F : Int} {p : IC.Path} (hl : 1 ≤ p.segs.length ∧ p.segs.length ≤ 4) (hs : IC.reach F p.st = false) : IC.chkPath F p = 1 := by
  unfold IC.chkPath
  rw [if_neg (by omega), if_neg (by omega), hs]
  rfl
theorem path_bad_seg {F : Int} {st : IC.Pt} {v : Value} {sf : List IC.Seg} {s : IC.Seg} {cl : Bool} (hl : sf.length ≤ 3) (hs : PtIn F st) (hf : ∀ x ∈ sf, SegGood F x) (h : IC.chkSeg F s = 1) : IC.chkPath F ⟨st, v, sf ++ [s], cl⟩ = 1 := by
  unfold IC.chkPath
  simp only [List.length_append, List.length_singleton]
  rw [if_neg (by omega), if_neg (by omega), reach_of hs (Int.le_refl _), first_snoc _ _ _ fun x hx => (hf x hx).chk (Int.le_refl _), h]
  rfl

end Go.Proofs.YtofmbedjbnbjlabDoor

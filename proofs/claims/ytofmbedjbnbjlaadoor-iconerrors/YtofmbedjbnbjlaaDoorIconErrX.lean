/-
  What the last four ways of IconErrors lean on.
-/
import Derived.Test.YtofmbedjbnbjlaaDoorIconErrV
import Derived.Test.YtofmbedjbnbjlaaDoorMake3
namespace Go.Proofs.YtofmbedjbnbjlaaDoor
open Go.RowKit

/-- The small icon's one color, as a list of the call's own. -/
theorem six_cols {w : World} {I : Nat} {a0 a1 a2 : Int} (h : Six w I a0 a1 a2) : Own w (I + 1 + 1 + 1 + 1) 63 4 IC.Col.cells (some ⟨I + 1 + 1 + 1 + 1, 0, none⟩) 1 [⟨0, 0, 0, 5⟩] :=
  ⟨rfl, .inr ⟨I + 1 + 1 + 1 + 1, 1, _, rfl, Nat.le_refl _, h.col, Nat.le_refl _, by unfold maxLen; omega, rfl, rfl⟩⟩

/-- The small icon with other colors. -/
theorem more_chk {a0 a1 a2 g : Int} {vc vm : Value} {c2 : IC.Col} {c : IC.Cmd} (h0 : 1 ≤ a0 ∧ a0 ≤ 24) (h1 : 1 ≤ a1 ∧ a1 ≤ 24) (h2 : 0 ≤ a2 ∧ a2 ≤ 6) (hg : 4 * max a0 a1 * 2 ^ a2.toNat = g) (hc : IC.chkCmd g 2 c = 0) (hp : IC.cmdPts c ≤ 4000) (ha : c.pn.a = 0) (hb : c.pn.b = 0) :
    IC.chk ⟨a0, a1, a2, vc, [⟨0, 0, 0, 5⟩, c2], vm, [c]⟩ = 3 := by
  have hs : IC.sized ⟨a0, a1, a2, vc, [⟨0, 0, 0, 5⟩, c2], vm, [c]⟩ = true := by
    unfold IC.sized
    rw [within_of h0.1 (by omega), within_of h1.1 (by omega), within_of h2.1 (by omega)]
    rfl
  have hgr : IC.greatest ⟨a0, a1, a2, vc, [⟨0, 0, 0, 5⟩, c2], vm, [c]⟩ = g := by unfold IC.greatest; rw [if_pos hs, ← hg]
  have hf : IC.firstOf (IC.chkCmd g 2) [c] = 0 := firstOf_all _ _ fun x hx => by rw [List.mem_singleton.1 hx]; exact hc
  have hpt : IC.points ⟨a0, a1, a2, vc, [⟨0, 0, 0, 5⟩, c2], vm, [c]⟩ = IC.cmdPts c := by show IC.cmdPts c + 0 = _; omega
  have hu : IC.usedFrom 0 [c] = some 1 := by
    show (match IC.place 0 c.pn.a with | none => none | some u1 => match IC.place u1 c.pn.b with | none => none | some u2 => some u2) = _
    rw [ha, hb]
    rfl
  unfold IC.chk
  rw [hs, hgr]
  show (if (!true) = true then 1 else if 256 < 2 ∨ 200 < 1 then 2 else if IC.firstOf (IC.chkCmd g 2) [c] ≠ 0 then IC.firstOf (IC.chkCmd g 2) [c] else if 4000 < IC.points ⟨a0, a1, a2, vc, [⟨0, 0, 0, 5⟩, c2], vm, [c]⟩ then 2 else if (IC.twinsFrom [] [⟨0, 0, 0, 5⟩, c2] || !decide (IC.usedFrom 0 [c] = some 2)) = true then 3 else 0) = 3
  rw [hf, hpt, hu, if_neg (by simp), if_neg (by simp), if_neg (by simp), if_neg (by omega), if_pos (by simp)]

theorem long_chk {a0 a1 a2 : Int} {vc vm : Value} {cols : List IC.Col} {cmds : List IC.Cmd} (h0 : 1 ≤ a0 ∧ a0 ≤ 24) (h1 : 1 ≤ a1 ∧ a1 ≤ 24) (h2 : 0 ≤ a2 ∧ a2 ≤ 6) (hc : 256 < cols.length) : IC.chk ⟨a0, a1, a2, vc, cols, vm, cmds⟩ = 2 := by
  have hs : IC.sized ⟨a0, a1, a2, vc, cols, vm, cmds⟩ = true := by
    unfold IC.sized
    rw [within_of h0.1 (by omega), within_of h1.1 (by omega), within_of h2.1 (by omega)]
    rfl
  unfold IC.chk
  rw [hs, if_neg (by simp), if_pos (.inl hc)]

theorem long_cmd {g : Int} {vp vs : Value} {segs : List IC.Seg} (hs : 400 < segs.length) : IC.chkCmd g 1 ⟨1, 0, 0, ⟨0, 0, 0, ⟨0, 0⟩, ⟨0, 0⟩⟩, vp, [⟨⟨0, 0⟩, vs, segs, false⟩]⟩ = 2 := by
  have hp : IC.chkPath g ⟨⟨0, 0⟩, vs, segs, false⟩ = 2 := by
    unfold IC.chkPath
    simp only
    rw [if_neg (by omega), if_pos hs]
  show (if IC.chkPath g ⟨⟨0, 0⟩, vs, segs, false⟩ = 0 then 0 else IC.chkPath g ⟨⟨0, 0⟩, vs, segs, false⟩) = 2
  rw [hp]
  simp

def segZero : IC.Seg := ⟨0, ⟨0, 0⟩, ⟨0, 0⟩, ⟨0, 0⟩⟩
def colZero : IC.Col := ⟨0, 0, 0, 0⟩

theorem made_at (z : Array Value) (n : Nat) (v : Value) (hz : ∀ j, j < z.size → z[j]! = v) (hs : 0 < z.size) : (madeCells z n).toList = List.replicate n v := by
  apply List.ext_getElem
  · simp [madeCells]
  · intro i h1 h2
    simp only [madeCells, Array.toList_map, List.getElem_map, List.getElem_replicate]
    exact hz _ (Nat.mod_lt _ hs)

theorem zero_flat {α : Type} (f : α → List Value) (x : α) (v : Value) (s : Nat) (hf : f x = List.replicate s v) (n : Nat) : (List.replicate n x).flatMap f = List.replicate (n * s) v := by
  induction n with
  | zero => simp
  | succ n ih => rw [List.replicate_succ, List.flatMap_cons, ih, hf, List.replicate_append_replicate, Nat.succ_mul, Nat.add_comm]

theorem made_segs {w : World} {B : Nat} (h : w.ownsRow B 60 7 (.slice (some ⟨B, 0, none⟩) 401 401) 401 (madeCells (Value.agg #[.int .i64 0, .int .i64 0, .int .i64 0, .int .i64 0, .int .i64 0, .int .i64 0, .int .i64 0]).cells (401 * 7)).toList) : Own w B 60 7 IC.Seg.cells (some ⟨B, 0, none⟩) 401 (List.replicate 401 segZero) := by
  unfold Own
  rw [zero_flat IC.Seg.cells segZero (.int .i64 0) 7 rfl, List.length_replicate]
  rw [made_at _ _ (.int .i64 0) (fun j hj => by have hj' : j < 7 := hj; match j, hj' with | 0, _ => rfl | 1, _ => rfl | 2, _ => rfl | 3, _ => rfl | 4, _ => rfl | 5, _ => rfl | 6, _ => rfl) (by decide)] at h
  exact h
theorem made_cols {w : World} {B : Nat} (h : w.ownsRow B 63 4 (.slice (some ⟨B, 0, none⟩) 257 257) 257 (madeCells (Value.agg #[.int .u8 0, .int .u8 0, .int .u8 0, .int .u8 0]).cells (257 * 4)).toList) : Own w B 63 4 IC.Col.cells (some ⟨B, 0, none⟩) 257 (List.replicate 257 colZero) := by
  unfold Own
  rw [zero_flat IC.Col.cells colZero (.int .u8 0) 4 rfl, List.length_replicate]
  rw [made_at _ _ (.int .u8 0) (fun j hj => by have hj' : j < 4 := hj; match j, hj' with | 0, _ => rfl | 1, _ => rfl | 2, _ => rfl | 3, _ => rfl) (by decide)] at h
  exact h

end Go.Proofs.YtofmbedjbnbjlaaDoor

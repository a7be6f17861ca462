/-
  Icons with many like parts: what Check says of them, plainly.
-/
import Derived.Test.YtmkipfgglcpfaaaDoorIconPlain
namespace Go.Proofs.YtmkipfgglcpfaaaDoor
namespace IC

theorem firstOf_rep {α : Type} (f : α → Nat) (x : α) (n : Nat) (h : f x = 0) : firstOf f (List.replicate n x) = 0 := by
  induction n with
  | zero => rfl
  | succ n ih => rw [List.replicate_succ]; unfold firstOf; rw [if_pos h, ih]

theorem firstOf_app {α : Type} (f : α → Nat) (a b : List α) (ha : firstOf f a = 0) : firstOf f (a ++ b) = firstOf f b := by
  induction a with
  | nil => rfl
  | cons x r ih =>
    unfold firstOf at ha
    split at ha
    · rename_i h; rw [List.cons_append]; show (if f x = 0 then firstOf f (r ++ b) else f x) = _; rw [if_pos h, ih ha]
    · exact absurd ha (by assumption)

theorem sumOf_rep {α : Type} (f : α → Int) (x : α) (n : Nat) : sumOf f (List.replicate n x) = n * f x := by
  induction n with
  | zero => simp [sumOf]
  | succ n ih => rw [List.replicate_succ]; unfold sumOf; rw [ih, Int.natCast_add, Int.add_mul]; simp; omega

theorem sumOf_app {α : Type} (f : α → Int) (a b : List α) : sumOf f (a ++ b) = sumOf f a + sumOf f b := by
  induction a with
  | nil => simp [sumOf]
  | cons x r ih => rw [List.cons_append]; show f x + sumOf f (r ++ b) = f x + sumOf f r + sumOf f b; rw [ih]; omega

def line : Seg := ⟨1, ⟨0, 0⟩, ⟨0, 0⟩, ⟨0, 0⟩⟩
def cubic : Seg := ⟨3, ⟨1, 0⟩, ⟨2, 0⟩, ⟨1, 0⟩⟩
def pathOf (v : Value) (l : List Seg) : Path := ⟨⟨0, 0⟩, v, l, false⟩
def fillOf (v : Value) (l : List Path) : Cmd := ⟨1, 0, 0, ⟨0, 0, 0, ⟨0, 0⟩, ⟨0, 0⟩⟩, v, l⟩
def iconOf (vc vm : Value) (l : List Cmd) : Icon := ⟨1, 1, 0, vc, [⟨0, 0, 0, 0⟩], vm, l⟩

theorem seg_line : chkSeg 4 line = 0 := by decide
theorem seg_cubic : chkSeg 4 cubic = 0 := by decide

theorem path_of (v : Value) (l : List Seg) (h0 : l.length ≠ 0) (h : firstOf (chkSeg 4) l = 0) : chkPath 4 (pathOf v l) = if 400 < l.length then 2 else 0 := by
  unfold chkPath pathOf
  simp only
  rw [if_neg h0, h]
  split
  · rfl
  · simp [reach, within]

theorem one_of (v : Value) (l : List Seg) : chkOne 4 1 (pathOf v l) = chkPath 4 (pathOf v l) := by unfold chkOne pathOf; simp

theorem fill_of (v : Value) (l : List Path) (h0 : l.length ≠ 0) : chkCmd 4 1 (fillOf v l) = if 200 < l.length then 2 else firstOf (chkOne 4 1) l := by
  unfold chkCmd fillOf
  simp only
  have h1 : headed 4 ⟨1, 0, 0, ⟨0, 0, 0, ⟨0, 0⟩, ⟨0, 0⟩⟩, v, l⟩ = true := by simp [headed]
  have h2 : chkPaint 4 1 ⟨0, 0, 0, ⟨0, 0⟩, ⟨0, 0⟩⟩ = 0 := by decide
  rw [h1, h2]
  simp [h0]

theorem used_rep (l : List Cmd) (h : ∀ c ∈ l, c.pn.a = 0 ∧ c.pn.b = 0) : usedFrom 1 l = some 1 := by
  induction l with
  | nil => rfl
  | cons c r ih =>
    have h1 := h c (by simp)
    unfold usedFrom
    rw [h1.1, h1.2]
    exact ih fun c hc => h c (by simp [hc])

theorem used_one (c : Cmd) (l : List Cmd) (h : ∀ x ∈ c :: l, x.pn.a = 0 ∧ x.pn.b = 0) : usedFrom 0 (c :: l) = some 1 := by
  have h1 := h c (by simp)
  unfold usedFrom
  rw [h1.1, h1.2]
  exact used_rep l fun x hx => h x (by simp [hx])

theorem greatest_of (vc vm : Value) (l : List Cmd) : greatest (iconOf vc vm l) = 4 := by
  rfl

/-- What Check says of an icon of fills of one color. -/
theorem chk_of (vc vm : Value) (l : List Cmd) (h0 : l.length ≠ 0) (hp : ∀ c ∈ l, c.pn.a = 0 ∧ c.pn.b = 0) :
    chk (iconOf vc vm l) = if 200 < l.length then 2 else if firstOf (chkCmd 4 1) l ≠ 0 then firstOf (chkCmd 4 1) l else if 4000 < points (iconOf vc vm l) then 2 else 0 := by
  have hu : usedFrom 0 l = some 1 := by
    cases l with
    | nil => exact absurd rfl h0
    | cons c r => exact used_one c r hp
  unfold chk
  rw [greatest_of]
  have hs : sized (iconOf vc vm l) = true := rfl
  have hc : (iconOf vc vm l).cols = [⟨0, 0, 0, 0⟩] := rfl
  have hm : (iconOf vc vm l).cmds = l := rfl
  rw [hs, hc, hm, hu]
  have ht : twinsFrom [] [⟨0, 0, 0, 0⟩] = false := rfl
  rw [ht]
  simp

end IC
end Go.Proofs.YtmkipfgglcpfaaaDoor

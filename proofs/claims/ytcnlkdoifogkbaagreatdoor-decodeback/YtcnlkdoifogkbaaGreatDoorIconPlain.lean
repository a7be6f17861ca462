/-
  Icons as plain data, with the handles under which their lists lie in memory; what Check of package icon answers of them, said plainly.
-/
import Derived.WalkKit
namespace Go.Proofs.YtcnlkdoifogkbaaGreatDoor
namespace IC

structure Pt where
  x : Int
  y : Int

structure Seg where
  k : Int
  a : Pt
  b : Pt
  c : Pt

structure Path where
  st : Pt
  vs : Value
  segs : List Seg
  cl : Bool

structure Paint where
  k : Int
  a : Int
  b : Int
  p : Pt
  q : Pt

structure Cmd where
  k : Int
  r : Int
  wd : Int
  pn : Paint
  vp : Value
  paths : List Path

structure Col where
  r : Int
  g : Int
  b : Int
  a : Int

structure Icon where
  w : Int
  h : Int
  s : Int
  vc : Value
  cols : List Col
  vm : Value
  cmds : List Cmd

def Pt.cells (p : Pt) : List Value := [.int .i64 p.x, .int .i64 p.y]
def Seg.cells (s : Seg) : List Value := [.int .i64 s.k, .int .i64 s.a.x, .int .i64 s.a.y, .int .i64 s.b.x, .int .i64 s.b.y, .int .i64 s.c.x, .int .i64 s.c.y]
def Path.cells (p : Path) : List Value := [.int .i64 p.st.x, .int .i64 p.st.y, p.vs, .bool p.cl]
def Paint.cells (p : Paint) : List Value := [.int .i64 p.k, .int .i64 p.a, .int .i64 p.b, .int .i64 p.p.x, .int .i64 p.p.y, .int .i64 p.q.x, .int .i64 p.q.y]
def Cmd.cells (c : Cmd) : List Value := [.int .i64 c.k, .int .i64 c.r, .int .i64 c.wd, .int .i64 c.pn.k, .int .i64 c.pn.a, .int .i64 c.pn.b, .int .i64 c.pn.p.x, .int .i64 c.pn.p.y, .int .i64 c.pn.q.x, .int .i64 c.pn.q.y, c.vp]
def Col.cells (c : Col) : List Value := [.int .u8 c.r, .int .u8 c.g, .int .u8 c.b, .int .u8 c.a]
def Icon.cells (i : Icon) : List Value := [.int .i64 i.w, .int .i64 i.h, .int .i64 i.s, i.vc, i.vm]

def within (n lo hi : Int) : Bool := decide (lo ≤ n) && decide (n ≤ hi)
def reach (far : Int) (p : Pt) : Bool := within p.x (-far) far && within p.y (-far) far
def zero (p : Pt) : Bool := (p.x == 0) && (p.y == 0)

def Seg.pts (s : Seg) : List Pt := [s.a, s.b, s.c]

/-- 0: none; 1: ErrRange; 2: ErrLimit; 3: ErrCanon. -/
def chkSeg (far : Int) (s : Seg) : Nat := if !within s.k 1 3 then 1 else if !(s.pts.take s.k.toNat).all (reach far) then 1 else if !(s.pts.drop s.k.toNat).all zero then 3 else 0

def firstOf {α : Type} (f : α → Nat) : List α → Nat
  | [] => 0
  | x :: r => if f x = 0 then firstOf f r else f x

def chkPath (far : Int) (p : Path) : Nat := if p.segs.length = 0 then 1 else if 400 < p.segs.length then 2 else if !reach far p.st then 1 else firstOf (chkSeg far) p.segs

def headed (far : Int) (c : Cmd) : Bool := if c.k == 1 then ((c.r == 0) || (c.r == 1)) && (c.wd == 0) else if c.k == 2 then (c.r == 0) && within c.wd 1 far else false

def chkFlat (n : Int) (p : Paint) : Nat := if !within p.a 0 (n - 1) then 1 else if (p.b != 0) || !zero p.p || !zero p.q then 3 else 0
def samePt (p q : Pt) : Bool := (p.x == q.x) && (p.y == q.y)
def chkLinear (far n : Int) (p : Paint) : Nat := if !within p.a 0 (n - 1) || !within p.b 0 (n - 1) || !reach far p.p || !reach far p.q || samePt p.p p.q then 1 else 0
def chkRadial (far n : Int) (p : Paint) : Nat := if !within p.a 0 (n - 1) || !within p.b 0 (n - 1) || !reach far p.p || !within p.q.x 1 far then 1 else if p.q.y != 0 then 3 else 0
def chkPaint (far n : Int) (p : Paint) : Nat := if p.k == 0 then chkFlat n p else if p.k == 1 then chkLinear far n p else if p.k == 2 then chkRadial far n p else 1

def chkOne (far : Int) (k : Int) (p : Path) : Nat := if p.cl && (k == 1) then 3 else chkPath far p

def chkCmd (far n : Int) (c : Cmd) : Nat :=
  if !headed far c then 1 else if chkPaint far n c.pn ≠ 0 then chkPaint far n c.pn else if c.paths.length = 0 then 1 else if 200 < c.paths.length then 2 else firstOf (chkOne far c.k) c.paths

def segPts (s : Seg) : Int := if within s.k 1 3 then s.k else 0
def sumOf {α : Type} (f : α → Int) : List α → Int
  | [] => 0
  | x :: r => f x + sumOf f r
def pathPts (p : Path) : Int := 1 + sumOf segPts p.segs
def cmdPts (c : Cmd) : Int := sumOf pathPts c.paths
def points (i : Icon) : Int := sumOf cmdPts i.cmds

def sameCol (a b : Col) : Bool := (a.r == b.r) && ((a.g == b.g) && ((a.b == b.b) && (a.a == b.a)))
def twinsFrom : List Col → List Col → Bool
  | _, [] => false
  | seen, c :: r => seen.any (sameCol c) || twinsFrom (seen ++ [c]) r

def place (u p : Int) : Option Int := if u < p then none else if p = u then some (u + 1) else some u
def usedFrom : Int → List Cmd → Option Int
  | u, [] => some u
  | u, c :: r => match place u c.pn.a with
    | none => none
    | some u1 => match place u1 c.pn.b with
      | none => none
      | some u2 => usedFrom u2 r

def sized (i : Icon) : Bool := within i.w 1 4096 && (within i.h 1 4096 && within i.s 0 6)
def greatest (i : Icon) : Int := if sized i then 4 * max i.w i.h * 2 ^ i.s.toNat else 0

def chk (i : Icon) : Nat :=
  if !sized i then 1 else if 256 < i.cols.length ∨ 200 < i.cmds.length then 2
  else if firstOf (chkCmd (greatest i) i.cols.length) i.cmds ≠ 0 then firstOf (chkCmd (greatest i) i.cols.length) i.cmds
  else if 4000 < points i then 2
  else if twinsFrom [] i.cols || !decide (usedFrom 0 i.cmds = some (i.cols.length : Int)) then 3 else 0

theorem firstOf_drop {α : Type} (f : α → Nat) (l : List α) (k : Nat) (hk : k < l.length) : firstOf f (l.drop k) = if f l[k] = 0 then firstOf f (l.drop (k + 1)) else f l[k] := by
  rw [List.drop_eq_getElem_cons hk]; rfl

theorem sumOf_take {α : Type} (f : α → Int) (l : List α) (k : Nat) (hk : k < l.length) : sumOf f (l.take (k + 1)) = sumOf f (l.take k) + f l[k] := by
  induction l generalizing k with
  | nil => simp at hk
  | cons x r ih =>
    cases k with
    | zero => simp [sumOf]
    | succ k => simp only [List.take_succ_cons, sumOf, List.getElem_cons_succ]; rw [ih k (by simpa using hk)]; omega

theorem segPts_le (s : Seg) : 0 ≤ segPts s ∧ segPts s ≤ 3 := by
  unfold segPts within; split
  · rename_i h; simp at h; omega
  · omega

theorem sumOf_le {α : Type} (f : α → Int) (b : Int) (l : List α) (h : ∀ x ∈ l, 0 ≤ f x ∧ f x ≤ b) : 0 ≤ sumOf f l ∧ sumOf f l ≤ b * l.length := by
  induction l with
  | nil => simp [sumOf]
  | cons x r ih =>
    have h1 := h x (by simp)
    have h2 := ih (fun y hy => h y (by simp [hy]))
    simp only [sumOf, List.length_cons]
    have e : b * ((r.length + 1 : Nat) : Int) = b * r.length + b := by rw [Int.natCast_add, Int.mul_add]; simp
    rw [e]; omega

end IC
end Go.Proofs.YtcnlkdoifogkbaaGreatDoor

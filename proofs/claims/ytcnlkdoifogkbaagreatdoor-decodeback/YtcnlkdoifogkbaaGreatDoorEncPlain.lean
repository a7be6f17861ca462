/-
  An icon's bytes, said plainly; runs of segments; unlike icons have unlike bytes.
-/
import Derived.Test.YtcnlkdoifogkbaaGreatDoorIconPlain
import Derived.Test.YtcnlkdoifogkbaaGreatDoorWirePlain
namespace Go.Proofs.YtcnlkdoifogkbaaGreatDoor
namespace EP
open IC

def zig (z : Int) : Nat := if z < 0 then (-2 * z - 1).toNat else (2 * z).toNat
def num (n : Int) : List Nat := WP.enc n.toNat
def zg (z : Int) : List Nat := WP.enc (zig z)
def pt (p : Pt) : List Nat := zg p.x ++ zg p.y
def dpt (q p : Pt) : List Nat := zg (p.x - q.x) ++ zg (p.y - q.y)
def ptsOf (s : Seg) : List Pt := s.pts.take s.k.toNat
def way : Pt → List Pt → List Nat
  | _, [] => []
  | q, p :: r => dpt q p ++ way p r
def lastOf : Pt → List Pt → Pt
  | q, [] => q
  | _, p :: r => lastOf p r

def addRun (o : List (Int × Nat)) (k : Int) : List (Int × Nat) := match o.getLast? with
  | none => [(k, 1)]
  | some x => if x.1 = k then o.dropLast ++ [(k, x.2 + 1)] else o ++ [(k, 1)]
def runsOf (l : List Int) : List (Int × Nat) := l.foldl addRun []
def runs (l : List Seg) : List (Int × Nat) := runsOf (l.map Seg.k)

def runsB : Pt → List (Int × Nat) → List Seg → List Nat
  | _, [], _ => []
  | q, (k, n) :: r, segs => num (n * 4 + k) ++ way q ((segs.take n).flatMap ptsOf) ++ runsB (lastOf q ((segs.take n).flatMap ptsOf)) r (segs.drop n)
def path (p : Path) : List Nat := num ((runs p.segs).length * 2 + (if p.cl then 1 else 0)) ++ pt p.st ++ runsB p.st (runs p.segs) p.segs
def paint (p : Paint) : List Nat := num p.a ++ (if p.k == 0 then [] else num p.b ++ pt p.p ++ (if p.k == 1 then pt p.q else num p.q.x))
def cmd (c : Cmd) : List Nat := num (c.k - 1 + c.r * 2 + c.pn.k * 4) ++ (if c.k == 2 then num c.wd else []) ++ paint c.pn ++ (num c.paths.length ++ c.paths.flatMap path)
def col (c : Col) : List Nat := [c.r.toNat, c.g.toNat, c.b.toNat, c.a.toNat]
def icon (i : Icon) : List Nat := [71, 76, 89, 49] ++ num i.w ++ num i.h ++ num i.s ++ (num i.cols.length ++ i.cols.flatMap col) ++ (num i.cmds.length ++ i.cmds.flatMap cmd)

/-! ### Runs -/
theorem add_nil (k : Int) : addRun [] k = [(k, 1)] := rfl
theorem add_same (o : List (Int × Nat)) (k : Int) (n : Nat) : addRun (o ++ [(k, n)]) k = o ++ [(k, n + 1)] := by
  unfold addRun
  simp
theorem add_other (o : List (Int × Nat)) (k k' : Int) (n : Nat) (h : k' ≠ k) : addRun (o ++ [(k', n)]) k = o ++ [(k', n)] ++ [(k, 1)] := by
  unfold addRun
  simp [h]

theorem runsOf_snoc (l : List Int) (k : Int) : runsOf (l ++ [k]) = addRun (runsOf l) k := by unfold runsOf; rw [List.foldl_append]; rfl

/-- Behind some kinds: the runs end in a run of the last one. -/
theorem runsOf_last (l : List Int) (k : Int) : ∃ o n, runsOf (l ++ [k]) = o ++ [(k, n + 1)] := by
  rw [runsOf_snoc]
  rcases (runsOf l).eq_nil_or_concat with h | ⟨o, x, h⟩
  · rw [h]; exact ⟨[], 0, rfl⟩
  · obtain ⟨k', n⟩ := x
    rw [List.concat_eq_append] at h
    rw [h]
    by_cases e : k' = k
    · subst e; rw [add_same]; exact ⟨o, n, rfl⟩
    · rw [add_other _ _ _ _ e]; exact ⟨_, 0, rfl⟩

def Apart : List (Int × Nat) → Prop
  | [] => True
  | [_] => True
  | x :: y :: r => x.1 ≠ y.1 ∧ Apart (y :: r)

theorem apart_snoc : ∀ (o : List (Int × Nat)) (x y : Int × Nat), Apart (o ++ [x]) → x.1 ≠ y.1 → Apart (o ++ [x] ++ [y]) := by
  intro o
  induction o with
  | nil => intro x y _ h; exact ⟨h, trivial⟩
  | cons a r ih =>
    intro x y h hn
    cases r with
    | nil => exact ⟨h.1, hn, trivial⟩
    | cons b t => exact ⟨h.1, ih x y h.2 hn⟩

theorem apart_turn : ∀ (o : List (Int × Nat)) (k : Int) (n m : Nat), Apart (o ++ [(k, n)]) → Apart (o ++ [(k, m)]) := by
  intro o
  induction o with
  | nil => intro k n m _; trivial
  | cons a r ih =>
    intro k n m h
    cases r with
    | nil => exact ⟨h.1, trivial⟩
    | cons b t => exact ⟨h.1, ih k n m h.2⟩

def kindsOf (rs : List (Int × Nat)) : List Int := rs.flatMap fun r => List.replicate r.2 r.1

theorem snoc_ind {P : List Int → Prop} (h0 : P []) (h1 : ∀ l k, P l → P (l ++ [k])) (l : List Int) : P l := by
  have h : ∀ l : List Int, P l.reverse := fun l => by
    induction l with
    | nil => exact h0
    | cons k r ih => rw [List.reverse_cons]; exact h1 _ _ ih
  have := h l.reverse
  rwa [List.reverse_reverse] at this

theorem runsOf_is (l : List Int) : Apart (runsOf l) ∧ (∀ r ∈ runsOf l, 1 ≤ r.2) ∧ kindsOf (runsOf l) = l := by
  refine snoc_ind (P := fun l => Apart (runsOf l) ∧ (∀ r ∈ runsOf l, 1 ≤ r.2) ∧ kindsOf (runsOf l) = l) ⟨trivial, by simp [runsOf], rfl⟩ (fun l k ih => ?_) l
  obtain ⟨h1, h2, h3⟩ := ih
  rw [runsOf_snoc]
  rcases (runsOf l).eq_nil_or_concat with h | ⟨o, x, h⟩
  · rw [h] at h3 ⊢
    rw [add_nil, ← h3]
    exact ⟨trivial, by simp, by simp [kindsOf]⟩
  · obtain ⟨k', n⟩ := x
    rw [List.concat_eq_append] at h
    rw [h] at h1 h2 h3 ⊢
    by_cases e : k' = k
    · subst e
      rw [add_same]
      refine ⟨apart_turn _ _ _ _ h1, fun r hr => ?_, ?_⟩
      · rcases List.mem_append.1 hr with hr | hr
        · exact h2 r (List.mem_append.2 (.inl hr))
        · rw [List.mem_singleton.1 hr]; simp
      · rw [← h3]; simp [kindsOf, List.replicate_succ', List.append_assoc]
    · rw [add_other _ _ _ _ e]
      refine ⟨apart_snoc _ _ _ h1 e, fun r hr => ?_, ?_⟩
      · rcases List.mem_append.1 hr with hr | hr
        · exact h2 r hr
        · rw [List.mem_singleton.1 hr]; simp
      · rw [← h3]; simp [kindsOf]

end EP
end Go.Proofs.YtcnlkdoifogkbaaGreatDoor

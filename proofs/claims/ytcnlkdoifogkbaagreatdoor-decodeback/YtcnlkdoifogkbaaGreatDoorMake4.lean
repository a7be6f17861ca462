/-
  Icons that are made of a few numbers: what they are, plainly; that Check has nothing against them.
-/
import Derived.Test.YtcnlkdoifogkbaaGreatDoorMake2
import Derived.Test.YtcnlkdoifogkbaaGreatDoorIconCheck
namespace Go.Proofs.YtcnlkdoifogkbaaGreatDoor
open Go.RowKit

def HeadGood (F : Int) (c : IC.Cmd) : Prop := (c.k = 1 ∧ (c.r = 0 ∨ c.r = 1) ∧ c.wd = 0) ∨ (c.k = 2 ∧ c.r = 0 ∧ 1 ≤ c.wd ∧ c.wd ≤ F)
def PaintGood (F n : Int) (p : IC.Paint) : Prop := (0 ≤ p.a ∧ p.a < n) ∧ ((p.k = 0 ∧ p.b = 0 ∧ PtNo p.p ∧ PtNo p.q) ∨ (p.k = 1 ∧ (0 ≤ p.b ∧ p.b < n) ∧ PtIn F p.p ∧ PtIn F p.q ∧ IC.samePt p.p p.q = false) ∨ (p.k = 2 ∧ (0 ≤ p.b ∧ p.b < n) ∧ PtIn F p.p ∧ (1 ≤ p.q.x ∧ p.q.x ≤ F) ∧ p.q.y = 0))
def PathGood (F k : Int) (p : IC.Path) : Prop := (k = 1 → p.cl = false) ∧ PtIn F p.st ∧ (1 ≤ p.segs.length ∧ p.segs.length ≤ 4) ∧ ∀ s ∈ p.segs, SegGood F s
def CmdGood (F n : Int) (c : IC.Cmd) : Prop := HeadGood F c ∧ PaintGood F n c.pn ∧ (1 ≤ c.paths.length ∧ c.paths.length ≤ 3) ∧ ∀ p ∈ c.paths, PathGood F c.k p

theorem PaintGood.mono {F n n' : Int} {p : IC.Paint} (h : PaintGood F n p) (hn : n ≤ n') : PaintGood F n' p := by
  obtain ⟨h1, h2⟩ := h
  refine ⟨by omega, ?_⟩
  rcases h2 with h | ⟨a, b, c⟩ | ⟨a, b, c⟩
  · exact .inl h
  · exact .inr (.inl ⟨a, by omega, c⟩)
  · exact .inr (.inr ⟨a, by omega, c⟩)
theorem CmdGood.mono {F n n' : Int} {c : IC.Cmd} (h : CmdGood F n c) (hn : n ≤ n') : CmdGood F n' c := ⟨h.1, h.2.1.mono hn, h.2.2⟩

theorem PtIn.mono {F F' : Int} {p : IC.Pt} (h : PtIn F p) (hF : F ≤ F') : PtIn F' p := by unfold PtIn at *; omega
theorem SegGood.mono {F F' : Int} {s : IC.Seg} (h : SegGood F s) (hF : F ≤ F') : SegGood F' s := by
  obtain ⟨j, hk, h1, h3, ha, hb, hc⟩ := h
  refine ⟨j, hk, h1, h3, ?_, ?_, ?_⟩
  · split at ha
    · rw [if_pos (by assumption)]; exact ha.mono hF
    · rw [if_neg (by assumption)]; exact ha
  · split at hb
    · rw [if_pos (by assumption)]; exact hb.mono hF
    · rw [if_neg (by assumption)]; exact hb
  · split at hc
    · rw [if_pos (by assumption)]; exact hc.mono hF
    · rw [if_neg (by assumption)]; exact hc

theorem firstOf_all {α : Type} (f : α → Nat) (l : List α) (h : ∀ x ∈ l, f x = 0) : IC.firstOf f l = 0 := by
  induction l with
  | nil => rfl
  | cons x r ih => unfold IC.firstOf; rw [if_pos (h x (by simp))]; exact ih fun y hy => h y (by simp [hy])

theorem HeadGood.chk {F : Int} {c : IC.Cmd} (h : HeadGood F c) : IC.headed F c = true := by
  unfold IC.headed
  rcases h with ⟨h1, h2 | h2, h3⟩ | ⟨h1, h2, h3, h4⟩
  · simp [h1, h2, h3]
  · simp [h1, h2, h3]
  · simp [h1, h2, h3, h4, IC.within]

theorem within_of {x lo hi : Int} (h1 : lo ≤ x) (h2 : x ≤ hi) : IC.within x lo hi = true := by unfold IC.within; simp [h1, h2]

theorem PaintGood.chk {F n : Int} {p : IC.Paint} (h : PaintGood F n p) : IC.chkPaint F n p = 0 := by
  obtain ⟨⟨h1, h2⟩, h3⟩ := h
  have e1 := within_of (x := p.a) (lo := 0) (hi := n - 1) h1 (by omega)
  unfold IC.chkPaint
  rcases h3 with ⟨hk, hb, hp, hq⟩ | ⟨hk, hb, hp, hq, hs⟩ | ⟨hk, hb, hp, hq, hy⟩
  · rw [hk]
    simp [IC.chkFlat, e1, hb, zero_of hp, zero_of hq]
  · rw [hk]
    have e2 := within_of (x := p.b) (lo := 0) (hi := n - 1) hb.1 (by omega)
    simp [IC.chkLinear, e1, e2, reach_of hp (Int.le_refl _), reach_of hq (Int.le_refl _), hs]
  · rw [hk]
    have e2 := within_of (x := p.b) (lo := 0) (hi := n - 1) hb.1 (by omega)
    simp [IC.chkRadial, e1, e2, reach_of hp (Int.le_refl _), within_of hq.1 hq.2, hy]

theorem PathGood.chk {F k : Int} {p : IC.Path} (h : PathGood F k p) : IC.chkOne F k p = 0 := by
  obtain ⟨h1, h2, h3, h4⟩ := h
  have hp : IC.chkPath F p = 0 := by
    unfold IC.chkPath
    rw [if_neg (by omega), if_neg (by omega), reach_of h2 (Int.le_refl _)]
    simp
    exact firstOf_all _ _ fun s hs => (h4 s hs).chk (Int.le_refl _)
  unfold IC.chkOne
  rw [hp]
  by_cases hk : k = 1
  · rw [h1 hk]; simp
  · simp [hk]

theorem CmdGood.chk {F n : Int} {c : IC.Cmd} (h : CmdGood F n c) : IC.chkCmd F n c = 0 := by
  obtain ⟨h1, h2, h3, h4⟩ := h
  unfold IC.chkCmd
  rw [h1.chk, h2.chk, firstOf_all _ _ fun p hp => (h4 p hp).chk]
  rw [if_neg (by simp), if_neg (by simp), if_neg (by omega), if_neg (by omega)]

theorem CmdGood.pts {F n : Int} {c : IC.Cmd} (h : CmdGood F n c) : 0 ≤ IC.cmdPts c ∧ IC.cmdPts c ≤ 39 := by
  have hp : ∀ p ∈ c.paths, 0 ≤ IC.pathPts p ∧ IC.pathPts p ≤ 13 := fun p hp => by
    have h1 := IC.sumOf_le IC.segPts 3 p.segs (fun s _ => IC.segPts_le s)
    have h2 := (h.2.2.2 p hp).2.2.1
    unfold IC.pathPts
    omega
  have := IC.sumOf_le IC.pathPts 13 c.paths hp
  have := h.2.2.1
  unfold IC.cmdPts
  omega

theorem same_symm (a b : IC.Col) : IC.sameCol a b = IC.sameCol b a := by
  unfold IC.sameCol
  rw [Bool.beq_comm (a := a.r), Bool.beq_comm (a := a.g), Bool.beq_comm (a := a.b), Bool.beq_comm (a := a.a)]

theorem twins_snoc (c : IC.Col) : ∀ (l seen : List IC.Col), IC.twinsFrom seen (l ++ [c]) = (IC.twinsFrom seen l || (seen ++ l).any (IC.sameCol c)) := by
  intro l
  induction l with
  | nil => intro seen; simp [IC.twinsFrom]
  | cons x r ih =>
    intro seen
    rw [List.cons_append]
    show (seen.any (IC.sameCol x) || IC.twinsFrom (seen ++ [x]) (r ++ [c])) = ((seen.any (IC.sameCol x) || IC.twinsFrom (seen ++ [x]) r) || (seen ++ x :: r).any (IC.sameCol c))
    rw [ih, List.append_assoc, Bool.or_assoc]
    rfl

theorem used_snoc (c : IC.Cmd) (n1 n2 : Int) : ∀ (l : List IC.Cmd) (u n : Int), IC.usedFrom u l = some n → IC.place n c.pn.a = some n1 → IC.place n1 c.pn.b = some n2 → IC.usedFrom u (l ++ [c]) = some n2 := by
  intro l
  induction l with
  | nil =>
    intro u n h h1 h2
    obtain rfl : u = n := by simpa [IC.usedFrom] using h
    show (match IC.place u c.pn.a with | none => none | some u1 => match IC.place u1 c.pn.b with | none => none | some u2 => IC.usedFrom u2 []) = _
    rw [h1]
    show (match IC.place n1 c.pn.b with | none => none | some u2 => IC.usedFrom u2 []) = _
    rw [h2]
    rfl
  | cons x r ih =>
    intro u n h h1 h2
    have h' : (match IC.place u x.pn.a with | none => none | some u1 => match IC.place u1 x.pn.b with | none => none | some u2 => IC.usedFrom u2 r) = some n := h
    show (match IC.place u x.pn.a with | none => none | some u1 => match IC.place u1 x.pn.b with | none => none | some u2 => IC.usedFrom u2 (r ++ [c])) = _
    cases ha : IC.place u x.pn.a with
    | none => rw [ha] at h'; cases h'
    | some u1 =>
      rw [ha] at h'
      replace h' : (match IC.place u1 x.pn.b with | none => none | some u2 => IC.usedFrom u2 r) = some n := h'
      show (match IC.place u1 x.pn.b with | none => none | some u2 => IC.usedFrom u2 (r ++ [c])) = _
      cases hb : IC.place u1 x.pn.b with
      | none => rw [hb] at h'; cases h'
      | some u2 =>
        rw [hb] at h'
        exact ih u2 n h' h1 h2

/-- What is made: an icon of a few commands, each color used, in its order. -/
structure Good (i : IC.Icon) : Prop where
  w : 1 ≤ i.w ∧ i.w ≤ 24
  h : 1 ≤ i.h ∧ i.h ≤ 24
  s : 0 ≤ i.s ∧ i.s ≤ 6
  cols : ∀ c ∈ i.cols, ColIn c
  few : i.cols.length ≤ 2 * i.cmds.length ∧ i.cmds.length ≤ 4
  cmds : ∀ c ∈ i.cmds, CmdGood (IC.greatest i) i.cols.length c
  apart : IC.twinsFrom [] i.cols = false
  used : IC.usedFrom 0 i.cmds = some (i.cols.length : Int)

theorem Good.sized {i : IC.Icon} (h : Good i) : IC.sized i = true := by
  unfold IC.sized
  have h1 := h.w
  have h2 := h.h
  have h3 := h.s
  rw [within_of h1.1 (by omega), within_of h2.1 (by omega), within_of h3.1 (by omega)]
  rfl

theorem Good.chk {i : IC.Icon} (h : Good i) : IC.chk i = 0 := by
  have h1 := h.few
  have hp : IC.points i ≤ 4000 := by
    have := IC.sumOf_le IC.cmdPts 39 i.cmds (fun c hc => (h.cmds c hc).pts)
    unfold IC.points
    omega
  unfold IC.chk
  rw [h.sized, firstOf_all _ _ fun c hc => (h.cmds c hc).chk, h.apart, h.used, if_neg (by simp), if_neg (by omega), if_neg (by simp), if_neg (by omega)]
  simp

end Go.Proofs.YtcnlkdoifogkbaaGreatDoor

/-
  A reader reads a command: what its parts turn, and its paint of whatever kind.
-/
import Derived.Test.YtbfhehdinkbioaaDoorDecPaths
import Derived.Test.YtbfhehdinkbioaaDoorDecPnt1
import Derived.Test.YtbfhehdinkbioaaDoorDecPnt2
namespace Go.Proofs.YtbfhehdinkbioaaDoor
open Go.RowKit

/-- What is read turns neither the bounds, nor the colors, nor the points. -/
def Keeps {α : Type} (p : DP.P α) : Prop := ∀ s v s', p s = .ok (v, s') → s'.far = s.far ∧ s'.cols = s.cols ∧ s'.pts = s.pts

theorem keeps_num (bs : List Nat) (rule : Nat → Option Nat) : Keeps (DP.num bs rule) := by
  intro s v s' h
  unfold DP.num at h
  split at h
  · cases h
  · split at h
    · cases h; exact ⟨rfl, rfl, rfl⟩
    · cases h
theorem keeps_ret {α : Type} (a : α) : Keeps (DP.ret a) := by intro s v s' h; cases h; exact ⟨rfl, rfl, rfl⟩
theorem keeps_then {α β : Type} {p : DP.P α} {f : α → DP.P β} (hp : Keeps p) (hf : ∀ a, Keeps (f a)) : Keeps (DP.andThen p f) := by
  intro s v s' h
  cases hr : p s with
  | error e => rw [DP.andThen_err hr] at h; cases h
  | ok u =>
    rw [DP.andThen_ok hr] at h
    obtain ⟨a1, a2, a3⟩ := hp s u.1 u.2 hr
    obtain ⟨b1, b2, b3⟩ := hf u.1 u.2 v s' h
    exact ⟨b1.trans a1, b2.trans a2, b3.trans a3⟩
theorem keeps_part (bs : List Nat) (a : Int) : Keeps (DP.part bs a) := fun s v s' h => keeps_then (keeps_num bs (DP.partRule s.far a)) (fun _ => keeps_ret _) s v s' h
theorem keeps_point (bs : List Nat) (a : IC.Pt) : Keeps (DP.point bs a) := keeps_then (keeps_part _ _) fun _ => keeps_then (keeps_part _ _) fun _ => keeps_ret _
theorem keeps_length (bs : List Nat) : Keeps (DP.length bs) := fun s v s' h => keeps_num bs (DP.between 1 s.far.toNat) s v s' h
theorem keeps_place (bs : List Nat) : Keeps (DP.place bs) := fun s v s' h => keeps_then (keeps_num bs (DP.placeRule s.cols.length s.used)) (fun _ s1 v1 s2 h => by cases h; exact ⟨rfl, rfl, rfl⟩) s v s' h
theorem keeps_other (bs : List Nat) (p : IC.Pt) : Keeps (DP.other bs p) := keeps_then (keeps_part _ _) fun y s v s' h => keeps_then (keeps_part bs 0) (fun b s1 v1 s2 h => by
  split at h
  · cases h
  · cases h; exact ⟨rfl, rfl, rfl⟩) s v s' h
theorem keeps_paint (bs : List Nat) (k : Nat) : Keeps (DP.paint bs k) := keeps_then (keeps_place _) fun a => by
  split
  · exact keeps_ret _
  · refine keeps_then (keeps_place _) fun c => keeps_then (keeps_point _ _) fun p => ?_
    split
    · exact keeps_then (keeps_other _ _) fun _ => keeps_ret _
    · exact keeps_then (keeps_length _) fun _ => keeps_ret _

theorem Keeps.run {α : Type} {p : DP.P α} (hp : Keeps p) {R : Except DP.Bad DP.St} {s' : DP.St} (h : rest (run p R) = .ok s') : ∃ s, R = .ok s ∧ s'.far = s.far ∧ s'.cols = s.cols ∧ s'.pts = s.pts := by
  cases R with
  | error e => cases h
  | ok s =>
    change rest (p s) = _ at h
    cases hr : p s with
    | error e => rw [hr] at h; cases h
    | ok u =>
      rw [hr] at h
      cases h
      exact ⟨s, rfl, hp s u.1 u.2 hr⟩

theorem dpaint_any (x : Src) (q k : Nat) (R : Except DP.Bad DP.St) (w : World) (h : Rs x q w R) (hk : k ≤ 2) :
    Calls Tryd.prog 80 #[.pointer (some ⟨q, 0, none⟩), .int .i64 k] w fun e w' => ∃ p : IC.Paint, e = .returned (.agg p.cells.toArray) ∧ (∀ v, run (DP.paint x.bs k) R = .ok v → v.1 = p) ∧ Rs x q w' (rest (run (DP.paint x.bs k) R)) ∧ Mk q w w' := by
  have h3 : k = 0 ∨ k = 1 ∨ k = 2 := by omega
  rcases h3 with rfl | rfl | rfl
  · exact paint0 x q R w h
  · exact paint1 x q R w h
  · exact paint2 x q R w h

/-- The command's paths may be Closed, or not. -/
def setCl (b : Bool) : Except DP.Bad DP.St → Except DP.Bad DP.St
  | .ok s => .ok { s with cl := b }
  | .error e => .error e

theorem Rs.setCl {x : Src} {q : Nat} {w : World} {R : Except DP.Bad DP.St} (h : Rs x q w R) (b : Bool) : Rs x q (w.setCell ⟨q, 7, none⟩ (.bool b)) (setCl b R) := by
  cases R with
  | ok s => exact Rd.setCl h b
  | error e => exact Rx.setCl h b
theorem Rs.clCell {x : Src} {q : Nat} {w : World} {R : Except DP.Bad DP.St} (h : Rs x q w R) : w.frozen? ⟨q, 7, none⟩ = false ∧ ∃ b : Bool, w.cell? ⟨q, 7, none⟩ = some (.bool b) := by
  cases R with
  | ok s => exact ⟨(show Rd x q w s from h).blk.frozen 7, s.cl, (show Rd x q w s from h).blk.cell 7⟩
  | error b =>
    obtain ⟨h1, ⟨ao, n, cap, at', far, adc, nc, capc, used, pts, cl, g, h2, h3, h4⟩, h5⟩ := h
    have := h2.cell 7
    simp at this
    exact ⟨h2.frozen 7, cl, this⟩

/-- A command's number. -/
theorem cmd_num {bs : List Nat} {R : Except DP.Bad DP.St} (hb : ∀ c ∈ bs, c < 256) : valOf (run (DP.num bs DP.cmdRule) R) < 12 ∧ valOf (run (DP.num bs DP.cmdRule) R) % 4 ≠ 3 := by
  cases R with
  | error e => exact ⟨by show 0 < _; omega, by show 0 % 4 ≠ 3; omega⟩
  | ok s =>
    show valOf (DP.num bs DP.cmdRule s) < 12 ∧ valOf (DP.num bs DP.cmdRule s) % 4 ≠ 3
    cases hN : DP.num bs DP.cmdRule s with
    | error e => exact ⟨by show 0 < _; omega, by show 0 % 4 ≠ 3; omega⟩
    | ok v =>
      obtain ⟨n, s1⟩ := v
      obtain ⟨-, f2, -⟩ := num_facts hN hb
      unfold DP.cmdRule at f2
      split at f2
      · cases f2
      · exact ⟨by show n < 12; omega, by show n % 4 ≠ 3; omega⟩
theorem paths_num {bs : List Nat} {R : Except DP.Bad DP.St} (hb : ∀ c ∈ bs, c < 256) : valOf (run (DP.num bs DP.pathsRule) R) ≤ 200 := by
  cases R with
  | error e => show 0 ≤ _; omega
  | ok s =>
    show valOf (DP.num bs DP.pathsRule s) ≤ 200
    cases hN : DP.num bs DP.pathsRule s with
    | error e => show 0 ≤ _; omega
    | ok v =>
      obtain ⟨n, s1⟩ := v
      obtain ⟨-, f2, -⟩ := num_facts hN hb
      unfold DP.pathsRule DP.atMost at f2
      split at f2
      · cases f2
      · split at f2
        · cases f2
        · show n ≤ 200; omega

/-- Behind a store into another kind's block. -/
theorem PathOk.far {w : World} {p : IC.Path} {a : Addr} {c : Array Value} (h : PathOk w p) (hb : Blk w a.block 53 c) (u : Value) : PathOk (w.setCell a u) p := Row.farT h hb (by decide) u

end Go.Proofs.YtbfhehdinkbioaaDoor

/-
  What can't be of an icon: the road up to its eighteen ways, walked over the program.
-/
import Derived.Test.YtofmbedjbnbjlaaDoorIconRow
import Derived.Test.YtofmbedjbnbjlaaDoorIconFirst
import Derived.Test.YtofmbedjbnbjlaaDoorErrSee
namespace Go.Proofs.YtofmbedjbnbjlaaDoor
open Go.RowKit

theorem Errs13.three' {w : World} {A : Nat → Addr} (h : Errs13 w A) : Errs3 w A := fun i hi => ⟨(h i (by omega)).1, (h i (by omega)).2.1⟩

set_option maxRecDepth 100000 in
set_option maxHeartbeats 4000000 in
theorem errors_long (A : Nat → Addr) (a : Option Addr) (len cap : Nat) (n : Int) (w : World) (hE : Errs13 w A) (hl : 200 < len) (hm : len ≤ 9223372036854775807) :
    Calls Tryd.prog 8 #[.slice a len cap, .int .i64 n] w fun e w' => e = .returned (.bool true) ∧ Below w.heap.size w w' := by
  have kf : Hid (∀ W, Below w.heap.size w W → Calls Tryd.prog 22 #[] W fun e w' => e = .returned (.bool true) ∧ Below W.heap.size W w') := fun W hb => first_any A W (hE.three'.below hb)
  clear hE
  have hli : (200 : Int) < (len : Int) := by omega
  go_enter Tryd.func8, Tryd.ntmps8
  go_wp2_with (go_at_call 22; refine (kf.out _ (Below.refl _ _)).mono ?_; rintro e w1 ⟨rfl, hb1⟩)
  go_ret
  exact ⟨rfl, hb1⟩

/-- The six blocks of the small icon. -/
structure Six (w : World) (I : Nat) (a0 a1 a2 : Int) : Prop where
  icon : Blk w I 30 #[.int .i64 a0, .int .i64 a1, .int .i64 a2, .slice (some ⟨I + 1 + 1 + 1 + 1, 0, none⟩) 1 1, .slice (some ⟨I + 1 + 1 + 1 + 1 + 1, 0, none⟩) 1 1]
  seg : Blk w (I + 1) 60 (IC.Seg.cells ⟨1, ⟨1, 0⟩, ⟨0, 0⟩, ⟨0, 0⟩⟩).toArray
  path : Blk w (I + 1 + 1) 51 (IC.Path.cells ⟨⟨0, 0⟩, .slice (some ⟨I + 1, 0, none⟩) 1 1, [⟨1, ⟨1, 0⟩, ⟨0, 0⟩, ⟨0, 0⟩⟩], false⟩).toArray
  col : Blk w (I + 1 + 1 + 1 + 1) 63 (IC.Col.cells ⟨0, 0, 0, 5⟩).toArray
  cmd : Blk w (I + 1 + 1 + 1 + 1 + 1) 45 (IC.Cmd.cells ⟨1, 0, 0, ⟨0, 0, 0, ⟨0, 0⟩, ⟨0, 0⟩⟩, .slice (some ⟨I + 1 + 1, 0, none⟩) 1 1, [⟨⟨0, 0⟩, .slice (some ⟨I + 1, 0, none⟩) 1 1, [⟨1, ⟨1, 0⟩, ⟨0, 0⟩, ⟨0, 0⟩⟩], false⟩]⟩).toArray

theorem Six.below {w w' : World} {I : Nat} {a0 a1 a2 : Int} (h : Six w I a0 a1 a2) (hb : Below w.heap.size w w') : Six w' I a0 a1 a2 :=
  ⟨h.icon.below hb h.icon.lt, h.seg.below hb h.seg.lt, h.path.below hb h.path.lt, h.col.below hb h.col.lt, h.cmd.below hb h.cmd.lt⟩

theorem small_ok {w : World} {I : Nat} {a0 a1 a2 : Int} {col : IC.Col} {c : IC.Cmd} (h1 : Blk w (I + 1 + 1 + 1 + 1) 63 col.cells.toArray) (h2 : Blk w (I + 1 + 1 + 1 + 1 + 1) 45 c.cells.toArray) (hc : CmdOk w c) :
    IconOk w ⟨a0, a1, a2, .slice (some ⟨I + 1 + 1 + 1 + 1, 0, none⟩) 1 1, [col], .slice (some ⟨I + 1 + 1 + 1 + 1 + 1, 0, none⟩) 1 1, [c]⟩ :=
  ⟨many_one IC.Col.cells col rfl h1, many_one IC.Cmd.cells c rfl h2, fun c' hc' => by obtain rfl : c' = c := List.mem_singleton.1 hc'; exact hc⟩

theorem small_cmd {w : World} {I : Nat} {c : IC.Cmd} {p : IC.Path} (hv : c.vp = .slice (some ⟨I + 1 + 1, 0, none⟩) 1 1) (hp : c.paths = [p]) (h1 : Blk w (I + 1 + 1) 51 p.cells.toArray) (h2 : PathOk w p) : CmdOk w c :=
  ⟨by rw [hv, hp]; exact many_one IC.Path.cells p rfl h1, fun p' hp' => by rw [hp] at hp'; obtain rfl : p' = p := List.mem_singleton.1 hp'; exact h2⟩

theorem small_path {w : World} {I : Nat} {p : IC.Path} {s : IC.Seg} (hv : p.vs = .slice (some ⟨I + 1, 0, none⟩) 1 1) (hp : p.segs = [s]) (h1 : Blk w (I + 1) 60 s.cells.toArray) : PathOk w p := by
  unfold PathOk
  rw [hv, hp]
  exact many_one IC.Seg.cells s rfl h1

theorem Six.ok {w : World} {I : Nat} {a0 a1 a2 : Int} (h : Six w I a0 a1 a2) : IconOk w ⟨a0, a1, a2, .slice (some ⟨I + 1 + 1 + 1 + 1, 0, none⟩) 1 1, [⟨0, 0, 0, 5⟩], .slice (some ⟨I + 1 + 1 + 1 + 1 + 1, 0, none⟩) 1 1, [⟨1, 0, 0, ⟨0, 0, 0, ⟨0, 0⟩, ⟨0, 0⟩⟩, .slice (some ⟨I + 1 + 1, 0, none⟩) 1 1, [⟨⟨0, 0⟩, .slice (some ⟨I + 1, 0, none⟩) 1 1, [⟨1, ⟨1, 0⟩, ⟨0, 0⟩, ⟨0, 0⟩⟩], false⟩]⟩]⟩ := small_ok h.col h.cmd (small_cmd rfl rfl h.path (small_path rfl rfl h.seg))

theorem six_new (w : World) (a0 a1 a2 : Int) : Six ((((((w.alloc (.cells #[.int .i64 a0, .int .i64 a1, .int .i64 a2, .slice (some ⟨w.heap.size + 1 + 1 + 1 + 1, 0, none⟩) 1 1, .slice (some ⟨w.heap.size + 1 + 1 + 1 + 1 + 1, 0, none⟩) 1 1] 30)).alloc (.cells #[.int .i64 1, .int .i64 1, .int .i64 0, .int .i64 0, .int .i64 0, .int .i64 0, .int .i64 0] 60)).alloc (.cells #[.int .i64 0, .int .i64 0, .slice (some ⟨w.heap.size + 1, 0, none⟩) 1 1, .bool false] 51)).alloc (.cells #[.int .i64 1, .int .i64 0, .int .i64 0, .int .i64 0, .int .i64 0, .int .i64 0, .int .i64 0, .int .i64 0, .int .i64 0, .int .i64 0, .slice (some ⟨w.heap.size + 1 + 1, 0, none⟩) 1 1] 45)).alloc (.cells #[.int .u8 0, .int .u8 0, .int .u8 0, .int .u8 5] 63)).alloc (.cells #[.int .i64 1, .int .i64 0, .int .i64 0, .int .i64 0, .int .i64 0, .int .i64 0, .int .i64 0, .int .i64 0, .int .i64 0, .int .i64 0, .slice (some ⟨w.heap.size + 1 + 1, 0, none⟩) 1 1] 45)) w.heap.size a0 a1 a2 := by
  have s : ∀ (w : World) (o : Obj), (w.alloc o).heap.size = w.heap.size + 1 := fun w o => by simp
  refine ⟨((((((blk_new w 30 _).alloc _).alloc _).alloc _).alloc _).alloc _), ?_, ?_, ?_, ?_⟩
  · have h := (blk_new (w.alloc (.cells #[.int .i64 a0, .int .i64 a1, .int .i64 a2, .slice (some ⟨w.heap.size + 1 + 1 + 1 + 1, 0, none⟩) 1 1, .slice (some ⟨w.heap.size + 1 + 1 + 1 + 1 + 1, 0, none⟩) 1 1] 30)) 60 #[.int .i64 1, .int .i64 1, .int .i64 0, .int .i64 0, .int .i64 0, .int .i64 0, .int .i64 0])
    rw [s] at h
    exact (((h.alloc _).alloc _).alloc _).alloc _
  · have h := (blk_new ((w.alloc (.cells #[.int .i64 a0, .int .i64 a1, .int .i64 a2, .slice (some ⟨w.heap.size + 1 + 1 + 1 + 1, 0, none⟩) 1 1, .slice (some ⟨w.heap.size + 1 + 1 + 1 + 1 + 1, 0, none⟩) 1 1] 30)).alloc (.cells #[.int .i64 1, .int .i64 1, .int .i64 0, .int .i64 0, .int .i64 0, .int .i64 0, .int .i64 0] 60)) 51 #[.int .i64 0, .int .i64 0, .slice (some ⟨w.heap.size + 1, 0, none⟩) 1 1, .bool false])
    rw [s, s] at h
    exact ((h.alloc _).alloc _).alloc _
  · have h := (blk_new ((((w.alloc (.cells #[.int .i64 a0, .int .i64 a1, .int .i64 a2, .slice (some ⟨w.heap.size + 1 + 1 + 1 + 1, 0, none⟩) 1 1, .slice (some ⟨w.heap.size + 1 + 1 + 1 + 1 + 1, 0, none⟩) 1 1] 30)).alloc (.cells #[.int .i64 1, .int .i64 1, .int .i64 0, .int .i64 0, .int .i64 0, .int .i64 0, .int .i64 0] 60)).alloc (.cells #[.int .i64 0, .int .i64 0, .slice (some ⟨w.heap.size + 1, 0, none⟩) 1 1, .bool false] 51)).alloc (.cells #[.int .i64 1, .int .i64 0, .int .i64 0, .int .i64 0, .int .i64 0, .int .i64 0, .int .i64 0, .int .i64 0, .int .i64 0, .int .i64 0, .slice (some ⟨w.heap.size + 1 + 1, 0, none⟩) 1 1] 45)) 63 #[.int .u8 0, .int .u8 0, .int .u8 0, .int .u8 5])
    rw [s, s, s, s] at h
    exact h.alloc _
  · have h := blk_new (((((w.alloc (.cells #[.int .i64 a0, .int .i64 a1, .int .i64 a2, .slice (some ⟨w.heap.size + 1 + 1 + 1 + 1, 0, none⟩) 1 1, .slice (some ⟨w.heap.size + 1 + 1 + 1 + 1 + 1, 0, none⟩) 1 1] 30)).alloc (.cells #[.int .i64 1, .int .i64 1, .int .i64 0, .int .i64 0, .int .i64 0, .int .i64 0, .int .i64 0] 60)).alloc (.cells #[.int .i64 0, .int .i64 0, .slice (some ⟨w.heap.size + 1, 0, none⟩) 1 1, .bool false] 51)).alloc (.cells #[.int .i64 1, .int .i64 0, .int .i64 0, .int .i64 0, .int .i64 0, .int .i64 0, .int .i64 0, .int .i64 0, .int .i64 0, .int .i64 0, .slice (some ⟨w.heap.size + 1 + 1, 0, none⟩) 1 1] 45)).alloc (.cells #[.int .u8 0, .int .u8 0, .int .u8 0, .int .u8 5] 63)) 45 (IC.Cmd.cells ⟨1, 0, 0, ⟨0, 0, 0, ⟨0, 0⟩, ⟨0, 0⟩⟩, .slice (some ⟨w.heap.size + 1 + 1, 0, none⟩) 1 1, []⟩).toArray
    rw [s, s, s, s, s] at h
    exact h

/-- What Check says of a small icon with one color and one command. -/
theorem small_chk {a0 a1 a2 g : Int} {vc vm : Value} {col : IC.Col} {c : IC.Cmd} (h0 : 1 ≤ a0 ∧ a0 ≤ 24) (h1 : 1 ≤ a1 ∧ a1 ≤ 24) (h2 : 0 ≤ a2 ∧ a2 ≤ 6) (hg : 4 * max a0 a1 * 2 ^ a2.toNat = g) :
    IC.greatest ⟨a0, a1, a2, vc, [col], vm, [c]⟩ = g ∧ (IC.chkCmd g 1 c ≠ 0 → IC.chk ⟨a0, a1, a2, vc, [col], vm, [c]⟩ = IC.chkCmd g 1 c) ∧ (IC.chkCmd g 1 c = 0 → IC.cmdPts c ≤ 4000 → c.pn.a = 0 → c.pn.b = 0 → IC.chk ⟨a0, a1, a2, vc, [col], vm, [c]⟩ = 0) := by
  have hs : IC.sized ⟨a0, a1, a2, vc, [col], vm, [c]⟩ = true := by
    unfold IC.sized
    rw [within_of h0.1 (by omega), within_of h1.1 (by omega), within_of h2.1 (by omega)]
    rfl
  have hgr : IC.greatest ⟨a0, a1, a2, vc, [col], vm, [c]⟩ = g := by unfold IC.greatest; rw [if_pos hs, ← hg]
  have hf : IC.firstOf (IC.chkCmd g 1) [c] = IC.chkCmd g 1 c := by
    unfold IC.firstOf
    split
    · rename_i h; rw [h]; rfl
    · rfl
  have e : IC.chk ⟨a0, a1, a2, vc, [col], vm, [c]⟩ = if IC.chkCmd g 1 c ≠ 0 then IC.chkCmd g 1 c else if 4000 < IC.points ⟨a0, a1, a2, vc, [col], vm, [c]⟩ then 2 else if IC.twinsFrom [] [col] || !decide (IC.usedFrom 0 [c] = some 1) then 3 else 0 := by
    unfold IC.chk
    rw [hs, hgr]
    show (if (!true) = true then 1 else if 256 < 1 ∨ 200 < 1 then 2 else if IC.firstOf (IC.chkCmd g 1) [c] ≠ 0 then IC.firstOf (IC.chkCmd g 1) [c] else if 4000 < IC.points ⟨a0, a1, a2, vc, [col], vm, [c]⟩ then 2 else if IC.twinsFrom [] [col] || !decide (IC.usedFrom 0 [c] = some 1) then 3 else 0) = _
    rw [hf]
    simp
  refine ⟨hgr, fun h => by rw [e, if_pos h], fun h hp ha hb => ?_⟩
  rw [e, if_neg (by simp [h])]
  have hpt : IC.points ⟨a0, a1, a2, vc, [col], vm, [c]⟩ = IC.cmdPts c := by show IC.cmdPts c + 0 = _; omega
  have hu : IC.usedFrom 0 [c] = some 1 := by
    show (match IC.place 0 c.pn.a with | none => none | some u1 => match IC.place u1 c.pn.b with | none => none | some u2 => some u2) = _
    rw [ha, hb]
    rfl
  rw [hpt, if_neg (by omega), hu]
  rfl

theorem small_good {g : Int} (hg : 4 ≤ g) {v u : Value} : CmdGood g 1 ⟨1, 0, 0, ⟨0, 0, 0, ⟨0, 0⟩, ⟨0, 0⟩⟩, v, [⟨⟨0, 0⟩, u, [⟨1, ⟨1, 0⟩, ⟨0, 0⟩, ⟨0, 0⟩⟩], false⟩]⟩ := by
  refine ⟨.inl ⟨rfl, .inl rfl, rfl⟩, ⟨⟨by show (0 : Int) ≤ 0; omega, by show (0 : Int) < 1; omega⟩, .inl ⟨rfl, rfl, ⟨rfl, rfl⟩, ⟨rfl, rfl⟩⟩⟩, ⟨by simp, by simp⟩, fun p hp => ?_⟩
  obtain rfl : p = _ := List.mem_singleton.1 hp
  refine ⟨fun _ => rfl, ⟨⟨by show -g ≤ 0; omega, by show 0 ≤ g; omega⟩, ⟨by show -g ≤ 0; omega, by show 0 ≤ g; omega⟩⟩, ⟨by simp, by simp⟩, fun s hs => ?_⟩
  obtain rfl : s = _ := List.mem_singleton.1 hs
  exact ⟨1, rfl, by omega, by omega, by simp; exact ⟨⟨by show -g ≤ 1; omega, by show 1 ≤ g; omega⟩, ⟨by show -g ≤ 0; omega, by show 0 ≤ g; omega⟩⟩, by simp; exact ⟨rfl, rfl⟩, by simp; exact ⟨rfl, rfl⟩⟩

theorem g_bound {a0 a1 a2 g : Int} (ha0 : 1 ≤ a0 ∧ a0 ≤ 24) (ha1 : 1 ≤ a1 ∧ a1 ≤ 24) (ha2 : 0 ≤ a2 ∧ a2 ≤ 6) (hg : 4 * max a0 a1 * 2 ^ a2.toNat = g) : 4 ≤ g ∧ g ≤ 6144 := by
  have h1 : 1 ≤ max a0 a1 ∧ max a0 a1 ≤ 24 := by rw [Int.max_def]; split <;> omega
  have h2 : a2.toNat = 0 ∨ a2.toNat = 1 ∨ a2.toNat = 2 ∨ a2.toNat = 3 ∨ a2.toNat = 4 ∨ a2.toNat = 5 ∨ a2.toNat = 6 := by omega
  generalize max a0 a1 = x at h1 hg
  rcases h2 with e | e | e | e | e | e | e <;> rw [e] at hg <;> simp only [Int.reducePow] at hg <;> omega

theorem six_below {w w1 : World} (h : Below w.heap.size w w1) (a b c d e f : Obj) : Below w.heap.size w ((((((w1.alloc a).alloc b).alloc c).alloc d).alloc e).alloc f) := by
  have := h.size
  exact (((((h.alloc (by omega) a).alloc (by simp; omega) b).alloc (by simp; omega) c).alloc (by simp; omega) d).alloc (by simp; omega) e).alloc (by simp; omega) f

end Go.Proofs.YtofmbedjbnbjlaaDoor

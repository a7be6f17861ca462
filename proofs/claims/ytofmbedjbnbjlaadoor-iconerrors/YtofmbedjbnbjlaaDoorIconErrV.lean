/-
  What Check says of each way of IconErrors, plainly.
-/
import Derived.Test.YtofmbedjbnbjlaaDoorIconErrB
namespace Go.Proofs.YtofmbedjbnbjlaaDoor
open Go.RowKit

theorem errval_4 {g : Int} (I : Nat) (_h0 : 4 ≤ g) (_h1 : g ≤ 6144) : IC.chkCmd g 1 ⟨1, 0, 0, ⟨0, 1, 0, ⟨0, 0⟩, ⟨0, 0⟩⟩, .slice (some ⟨I + 1 + 1, 0, none⟩) 1 1, [⟨⟨0, 0⟩, .slice (some ⟨I + 1, 0, none⟩) 1 1, [⟨1, ⟨1, 0⟩, ⟨0, 0⟩, ⟨0, 0⟩⟩], false⟩]⟩ = 1 := by
  simp [IC.chkCmd, IC.headed, IC.chkPaint, IC.chkFlat, IC.within] <;> omega

theorem errval_5 {g : Int} (I : Nat) (_h0 : 4 ≤ g) (_h1 : g ≤ 6144) : IC.chkCmd g 1 ⟨1, 0, 0, ⟨0, 0, 0, ⟨0, 0⟩, ⟨0, 1⟩⟩, .slice (some ⟨I + 1 + 1, 0, none⟩) 1 1, [⟨⟨0, 0⟩, .slice (some ⟨I + 1, 0, none⟩) 1 1, [⟨1, ⟨1, 0⟩, ⟨0, 0⟩, ⟨0, 0⟩⟩], false⟩]⟩ = 3 := by
  simp [IC.chkCmd, IC.headed, IC.chkPaint, IC.chkFlat, IC.within, IC.zero] <;> omega

theorem errval_6 {g : Int} (I : Nat) (_h0 : 4 ≤ g) (_h1 : g ≤ 6144) : IC.chkCmd g 1 ⟨1, 0, 1, ⟨0, 0, 0, ⟨0, 0⟩, ⟨0, 0⟩⟩, .slice (some ⟨I + 1 + 1, 0, none⟩) 1 1, [⟨⟨0, 0⟩, .slice (some ⟨I + 1, 0, none⟩) 1 1, [⟨1, ⟨1, 0⟩, ⟨0, 0⟩, ⟨0, 0⟩⟩], false⟩]⟩ = 1 := by
  simp [IC.chkCmd, IC.headed] <;> omega

theorem errval_7 {g : Int} (I : Nat) (_h0 : 4 ≤ g) (_h1 : g ≤ 6144) : IC.chkCmd g 1 ⟨1, 0, 0, ⟨0, 0, 0, ⟨0, 0⟩, ⟨0, 0⟩⟩, .slice (some ⟨I + 1 + 1, 0, none⟩) 1 1, [⟨⟨0, 0⟩, .slice (some ⟨I + 1, 0, none⟩) 1 1, [⟨1, ⟨1, 0⟩, ⟨0, 0⟩, ⟨0, 0⟩⟩], true⟩]⟩ = 3 := by
  simp [IC.chkCmd, IC.headed, IC.chkPaint, IC.chkFlat, IC.within, IC.zero, IC.firstOf, IC.chkOne] <;> omega

theorem errval_8 {g : Int} (I : Nat) (_h0 : 4 ≤ g) (_h1 : g ≤ 6144) : IC.chkCmd g 1 ⟨1, 0, 0, ⟨0, 0, 0, ⟨0, 0⟩, ⟨0, 0⟩⟩, .slice (some ⟨I + 1 + 1, 0, none⟩) 1 1, [⟨⟨0, 0⟩, .slice none 0 0, [], false⟩]⟩ = 1 := by
  simp [IC.chkCmd, IC.headed, IC.chkPaint, IC.chkFlat, IC.within, IC.zero, IC.firstOf, IC.chkOne, IC.chkPath] <;> omega

theorem errval_9 {g : Int} (_ : Nat) (_h0 : 4 ≤ g) (_h1 : g ≤ 6144) : IC.chkCmd g 1 ⟨1, 0, 0, ⟨0, 0, 0, ⟨0, 0⟩, ⟨0, 0⟩⟩, .slice none 0 0, []⟩ = 1 := by
  simp [IC.chkCmd, IC.headed, IC.chkPaint, IC.chkFlat, IC.within, IC.zero] <;> omega

theorem errval_10 {g : Int} (I : Nat) (_h0 : 4 ≤ g) (_h1 : g ≤ 6144) : IC.chkCmd g 1 ⟨1, 0, 0, ⟨0, 0, 0, ⟨0, 0⟩, ⟨0, 0⟩⟩, .slice (some ⟨I + 1 + 1, 0, none⟩) 1 1, [⟨⟨g + 1, 0⟩, .slice (some ⟨I + 1, 0, none⟩) 1 1, [⟨1, ⟨1, 0⟩, ⟨0, 0⟩, ⟨0, 0⟩⟩], false⟩]⟩ = 1 := by
  simp [IC.chkCmd, IC.headed, IC.chkPaint, IC.chkFlat, IC.within, IC.zero, IC.firstOf, IC.chkOne, IC.chkPath, IC.reach, IC.chkSeg, IC.Seg.pts]
  grind

theorem errval_11 {g : Int} (I : Nat) (_h0 : 4 ≤ g) (_h1 : g ≤ 6144) : IC.chkCmd g 1 ⟨1, 0, 0, ⟨0, 0, 0, ⟨0, 0⟩, ⟨0, 0⟩⟩, .slice (some ⟨I + 1 + 1, 0, none⟩) 1 1, [⟨⟨0, 0⟩, .slice (some ⟨I + 1, 0, none⟩) 1 1, [⟨1, ⟨1, -g - 1⟩, ⟨0, 0⟩, ⟨0, 0⟩⟩], false⟩]⟩ = 1 := by
  simp [IC.chkCmd, IC.headed, IC.chkPaint, IC.chkFlat, IC.within, IC.zero, IC.firstOf, IC.chkOne, IC.chkPath, IC.reach, IC.chkSeg, IC.Seg.pts]
  grind

theorem errval_12 {g : Int} (I : Nat) (_h0 : 4 ≤ g) (_h1 : g ≤ 6144) : IC.chkCmd g 1 ⟨1, 0, 0, ⟨0, 0, 0, ⟨0, 0⟩, ⟨0, 0⟩⟩, .slice (some ⟨I + 1 + 1, 0, none⟩) 1 1, [⟨⟨0, 0⟩, .slice (some ⟨I + 1, 0, none⟩) 1 1, [⟨1, ⟨1, 0⟩, ⟨0, 1⟩, ⟨0, 0⟩⟩], false⟩]⟩ = 3 := by
  simp [IC.chkCmd, IC.headed, IC.chkPaint, IC.chkFlat, IC.within, IC.zero, IC.firstOf, IC.chkOne, IC.chkPath, IC.reach, IC.chkSeg, IC.Seg.pts]
  grind

theorem errval_13 {g : Int} (I : Nat) (_h0 : 4 ≤ g) (_h1 : g ≤ 6144) : IC.chkCmd g 1 ⟨1, 0, 0, ⟨0, 0, 0, ⟨0, 0⟩, ⟨0, 0⟩⟩, .slice (some ⟨I + 1 + 1, 0, none⟩) 1 1, [⟨⟨0, 0⟩, .slice (some ⟨I + 1, 0, none⟩) 1 1, [⟨4, ⟨1, 0⟩, ⟨0, 0⟩, ⟨0, 0⟩⟩], false⟩]⟩ = 1 := by
  simp [IC.chkCmd, IC.headed, IC.chkPaint, IC.chkFlat, IC.within, IC.zero, IC.firstOf, IC.chkOne, IC.chkPath, IC.reach, IC.chkSeg] <;> omega

theorem errval_14 {g : Int} (I : Nat) (_h0 : 4 ≤ g) (_h1 : g ≤ 6144) : IC.chkCmd g 1 ⟨2, 0, 0, ⟨0, 0, 0, ⟨0, 0⟩, ⟨0, 0⟩⟩, .slice (some ⟨I + 1 + 1, 0, none⟩) 1 1, [⟨⟨0, 0⟩, .slice (some ⟨I + 1, 0, none⟩) 1 1, [⟨1, ⟨1, 0⟩, ⟨0, 0⟩, ⟨0, 0⟩⟩], false⟩]⟩ = 1 := by
  simp [IC.chkCmd, IC.headed, IC.within] <;> omega

theorem errval_15 {g : Int} (I : Nat) (_h0 : 4 ≤ g) (_h1 : g ≤ 6144) : IC.chkCmd g 1 ⟨1, 0, 0, ⟨1, 0, 0, ⟨0, 0⟩, ⟨0, 0⟩⟩, .slice (some ⟨I + 1 + 1, 0, none⟩) 1 1, [⟨⟨0, 0⟩, .slice (some ⟨I + 1, 0, none⟩) 1 1, [⟨1, ⟨1, 0⟩, ⟨0, 0⟩, ⟨0, 0⟩⟩], false⟩]⟩ = 1 := by
  simp [IC.chkCmd, IC.headed, IC.chkPaint, IC.chkLinear, IC.samePt, IC.within, IC.reach] <;> omega

end Go.Proofs.YtofmbedjbnbjlaaDoor

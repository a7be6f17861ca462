/-
  So many names, commands, items may be, and no more: the texts that ask it, read plainly.
-/
import Derived.Test.YtkhclolhkpkaeaaDoorParsePlain
namespace Go.Proofs.YtkhclolhkpkaeaaDoor
def rep (u : List UInt8) : Nat → List UInt8 → List UInt8
  | 0, l => l
  | n + 1, l => u ++ rep u n l
theorem rep_app (u : List UInt8) : ∀ (n : Nat) (l m : List UInt8), rep u n l ++ m = rep u n (l ++ m)
  | 0, _, _ => rfl
  | n + 1, l, m => by show (u ++ rep u n l) ++ m = u ++ rep u n (l ++ m); rw [List.append_assoc, rep_app u n l m]
theorem rep_in (u : List UInt8) : ∀ (n : Nat) (l : List UInt8), rep u n (u ++ l) = rep u (n + 1) l
  | 0, _ => rfl
  | n + 1, l => by show u ++ rep u n (u ++ l) = u ++ rep u (n + 1) l; rw [rep_in u n l]
theorem rep_more (h u : List UInt8) (n : Nat) : h ++ rep u n [] ++ u = h ++ rep u (n + 1) [] := by
  rw [List.append_assoc, rep_app, List.nil_append, ← rep_in u n [], List.append_nil]
def limErr (c p : Nat) : Except (Nat × Nat) PP.Src → Bool
  | .error e => decide (e = (c, p))
  | .ok _ => false
theorem limErr_eq {c p : Nat} {r : Except (Nat × Nat) PP.Src} (h : limErr c p r = true) : r = .error (c, p) := by
  cases r with
  | error m => simp [limErr] at h; rw [h]
  | ok _ => simp [limErr] at h
def limOk : Except (Nat × Nat) PP.Src → Bool
  | .error _ => false
  | .ok _ => true
theorem limOk_eq {r : Except (Nat × Nat) PP.Src} (h : limOk r = true) : ∃ X, r = .ok X := by
  cases r with
  | error m => simp [limOk] at h
  | ok X => exact ⟨X, rfl⟩
def limW (k : Nat) : Except Nat (List WP.W) → Bool
  | .error _ => false
  | .ok l => decide (k ≤ l.length)
theorem limW_eq {k : Nat} {r : Except Nat (List WP.W)} (h : limW k r = true) : ∃ ws, r = .ok ws ∧ k ≤ ws.length := by
  cases r with
  | error m => simp [limW] at h
  | ok X => exact ⟨X, rfl, by simpa [limW] using h⟩
set_option maxRecDepth 100000
theorem lim0n : limOk (PP.src ([105, 99, 111, 110, 32, 49, 32, 49, 59] ++ rep [99, 111, 110, 115, 116, 32, 97, 32, 61, 32, 49, 59] 64 [])) = true := by decide +kernel
theorem limw0n : limW 64 (WP.split ([105, 99, 111, 110, 32, 49, 32, 49, 59] ++ rep [99, 111, 110, 115, 116, 32, 97, 32, 61, 32, 49, 59] 64 [])) = true := by decide +kernel
theorem liml0n : ([105, 99, 111, 110, 32, 49, 32, 49, 59] ++ rep [99, 111, 110, 115, 116, 32, 97, 32, 61, 32, 49, 59] 64 []).length = 777 := by decide +kernel
theorem lim0o : limErr 5 783 (PP.src ([105, 99, 111, 110, 32, 49, 32, 49, 59] ++ rep [99, 111, 110, 115, 116, 32, 97, 32, 61, 32, 49, 59] 65 [])) = true := by decide +kernel
theorem limw0o : limW 64 (WP.split ([105, 99, 111, 110, 32, 49, 32, 49, 59] ++ rep [99, 111, 110, 115, 116, 32, 97, 32, 61, 32, 49, 59] 65 [])) = true := by decide +kernel
theorem liml0o : ([105, 99, 111, 110, 32, 49, 32, 49, 59] ++ rep [99, 111, 110, 115, 116, 32, 97, 32, 61, 32, 49, 59] 65 []).length = 789 := by decide +kernel
theorem lim1n : limOk (PP.src ([105, 99, 111, 110, 32, 49, 32, 49, 59] ++ rep [115, 104, 97, 112, 101, 32, 97, 32, 123, 32, 125] 64 [])) = true := by decide +kernel
theorem limw1n : limW 64 (WP.split ([105, 99, 111, 110, 32, 49, 32, 49, 59] ++ rep [115, 104, 97, 112, 101, 32, 97, 32, 123, 32, 125] 64 [])) = true := by decide +kernel
theorem liml1n : ([105, 99, 111, 110, 32, 49, 32, 49, 59] ++ rep [115, 104, 97, 112, 101, 32, 97, 32, 123, 32, 125] 64 []).length = 713 := by decide +kernel
theorem lim1o : limErr 5 719 (PP.src ([105, 99, 111, 110, 32, 49, 32, 49, 59] ++ rep [115, 104, 97, 112, 101, 32, 97, 32, 123, 32, 125] 65 [])) = true := by decide +kernel
theorem limw1o : limW 64 (WP.split ([105, 99, 111, 110, 32, 49, 32, 49, 59] ++ rep [115, 104, 97, 112, 101, 32, 97, 32, 123, 32, 125] 65 [])) = true := by decide +kernel
theorem liml1o : ([105, 99, 111, 110, 32, 49, 32, 49, 59] ++ rep [115, 104, 97, 112, 101, 32, 97, 32, 123, 32, 125] 65 []).length = 724 := by decide +kernel
theorem lim2n : limOk (PP.src ([105, 99, 111, 110, 32, 49, 32, 49, 59] ++ rep [102, 105, 108, 108, 32, 101, 118, 101, 110, 111, 100, 100, 32, 35, 48, 48, 48, 48, 48, 48, 32, 123, 32, 125] 200 [])) = true := by decide +kernel
theorem limw2n : limW 200 (WP.split ([105, 99, 111, 110, 32, 49, 32, 49, 59] ++ rep [102, 105, 108, 108, 32, 101, 118, 101, 110, 111, 100, 100, 32, 35, 48, 48, 48, 48, 48, 48, 32, 123, 32, 125] 200 [])) = true := by decide +kernel
theorem liml2n : ([105, 99, 111, 110, 32, 49, 32, 49, 59] ++ rep [102, 105, 108, 108, 32, 101, 118, 101, 110, 111, 100, 100, 32, 35, 48, 48, 48, 48, 48, 48, 32, 123, 32, 125] 200 []).length = 4809 := by decide +kernel
theorem lim2o : limErr 5 4809 (PP.src ([105, 99, 111, 110, 32, 49, 32, 49, 59] ++ rep [102, 105, 108, 108, 32, 101, 118, 101, 110, 111, 100, 100, 32, 35, 48, 48, 48, 48, 48, 48, 32, 123, 32, 125] 201 [])) = true := by decide +kernel
theorem limw2o : limW 200 (WP.split ([105, 99, 111, 110, 32, 49, 32, 49, 59] ++ rep [102, 105, 108, 108, 32, 101, 118, 101, 110, 111, 100, 100, 32, 35, 48, 48, 48, 48, 48, 48, 32, 123, 32, 125] 201 [])) = true := by decide +kernel
theorem liml2o : ([105, 99, 111, 110, 32, 49, 32, 49, 59] ++ rep [102, 105, 108, 108, 32, 101, 118, 101, 110, 111, 100, 100, 32, 35, 48, 48, 48, 48, 48, 48, 32, 123, 32, 125] 201 []).length = 4833 := by decide +kernel
theorem lim3n : limOk (PP.src ([105, 99, 111, 110, 32, 49, 32, 49, 59, 115, 104, 97, 112, 101, 32, 97, 32, 123] ++ rep [112, 97, 116, 104, 32, 77, 32, 49, 32, 49, 59] 400 [] ++ [125])) = true := by decide +kernel
theorem limw3n : limW 400 (WP.split ([105, 99, 111, 110, 32, 49, 32, 49, 59, 115, 104, 97, 112, 101, 32, 97, 32, 123] ++ rep [112, 97, 116, 104, 32, 77, 32, 49, 32, 49, 59] 400 [] ++ [125])) = true := by decide +kernel
theorem liml3n : ([105, 99, 111, 110, 32, 49, 32, 49, 59, 115, 104, 97, 112, 101, 32, 97, 32, 123] ++ rep [112, 97, 116, 104, 32, 77, 32, 49, 32, 49, 59] 400 [] ++ [125]).length = 4419 := by decide +kernel
theorem lim3o : limErr 5 4418 (PP.src ([105, 99, 111, 110, 32, 49, 32, 49, 59, 115, 104, 97, 112, 101, 32, 97, 32, 123] ++ rep [112, 97, 116, 104, 32, 77, 32, 49, 32, 49, 59] 401 [] ++ [125])) = true := by decide +kernel
theorem limw3o : limW 400 (WP.split ([105, 99, 111, 110, 32, 49, 32, 49, 59, 115, 104, 97, 112, 101, 32, 97, 32, 123] ++ rep [112, 97, 116, 104, 32, 77, 32, 49, 32, 49, 59] 401 [] ++ [125])) = true := by decide +kernel
theorem liml3o : ([105, 99, 111, 110, 32, 49, 32, 49, 59, 115, 104, 97, 112, 101, 32, 97, 32, 123] ++ rep [112, 97, 116, 104, 32, 77, 32, 49, 32, 49, 59] 401 [] ++ [125]).length = 4430 := by decide +kernel

end Go.Proofs.YtkhclolhkpkaeaaDoor

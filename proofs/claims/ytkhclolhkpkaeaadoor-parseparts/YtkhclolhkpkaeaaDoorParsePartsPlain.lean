/-
  What is written stands where it is written: the texts that ask it, read plainly.
-/
import Derived.Test.YtkhclolhkpkaeaaDoorParseLimPlain
namespace Go.Proofs.YtkhclolhkpkaeaaDoor
def pHd : List UInt8 := [105, 99, 111, 110, 32, 52, 32, 51, 32, 115, 99, 97, 108, 101, 32, 50, 59]
def pUnit : Bool → List UInt8
  | false => [99, 111, 110, 115, 116, 32, 107, 97, 32, 61, 32, 49, 46, 53, 59, 32, 99, 111, 108, 111, 114, 32, 114, 32, 61, 32, 35, 48, 49, 48, 50, 48, 51, 59, 32, 115, 104, 97, 112, 101, 32, 122, 32, 123, 32, 112, 97, 116, 104, 32, 77, 32, 49, 32, 107, 97, 32, 76, 32, 50, 32, 50, 32, 90, 59, 32, 125, 32, 102, 105, 108, 108, 32, 110, 111, 110, 122, 101, 114, 111, 32, 114, 32, 123, 32, 117, 115, 101, 32, 122, 32, 97, 116, 32, 48, 32, 49, 59, 32, 125, 32, 108, 105, 110, 101, 32, 50, 32, 35, 102, 102, 102, 102, 102, 102, 48, 48, 32, 123, 32, 125]
  | true => [99, 111, 110, 115, 116, 32, 107, 97, 32, 61, 32, 49, 46, 53, 59, 32, 99, 111, 108, 111, 114, 32, 114, 32, 61, 32, 35, 48, 49, 48, 50, 48, 51, 59, 32, 115, 104, 97, 112, 101, 32, 122, 32, 123, 32, 112, 97, 116, 104, 32, 77, 32, 49, 32, 107, 97, 32, 76, 32, 50, 32, 50, 32, 90, 59, 32, 125, 32, 102, 105, 108, 108, 32, 110, 111, 110, 122, 101, 114, 111, 32, 114, 32, 123, 32, 117, 115, 101, 32, 122, 32, 97, 116, 32, 48, 32, 49, 32, 98, 121, 32, 107, 97, 32, 116, 117, 114, 110, 32, 51, 59, 32, 125, 32, 108, 105, 110, 101, 32, 50, 32, 35, 102, 102, 102, 102, 102, 102, 48, 48, 32, 123, 32, 125]
def pText (b : Bool) (n : Nat) : List UInt8 := pHd ++ rep (pUnit b) n []
/-- What is wanted of the parts that one round writes. -/
structure PartIs (T : List UInt8) (b : Bool) (X : PP.Src) (i : Nat) (c : PP.Val) (r : PP.Ref) (s : PP.Shape) (f l : PP.Cmd) (it u : PP.Item) (s0 s1 s2 : PP.Step) (v0 v1 : PP.Val) : Prop where
  hc : X.consts[i]? = some c
  hr : X.colors[i]? = some r
  hs : X.shapes[i]? = some s
  hf : X.cmds[2 * i]? = some f
  hl : X.cmds[2 * i + 1]? = some l
  cn : c.n = 1500000
  cp : c.pos + 2 ≤ T.length ∧ (T.drop c.pos).take 2 = [107, 97]
  rb : r.c.b = 3
  si : s.items = [it]
  st : it.steps = [s0, s1, s2]
  sv : s0.vs = [v0, v1]
  vn : v1.name = [107, 97]
  sk : s2.kind = 7
  sp : s1.pos + 1 ≤ T.length ∧ (T.drop s1.pos).take 1 = [76]
  fr : f.rule = 1
  fa : f.paint.a.name = [114]
  fi : f.items = [u]
  fp : f.pos + 4 ≤ T.length ∧ (T.drop f.pos).take 4 = [102, 105, 108, 108]
  uu : u.use = true
  un : u.name = [122]
  up : u.pos + 3 ≤ T.length ∧ (T.drop u.pos).take 3 = [117, 115, 101]
  ub : (if b = true then u.by'.name = [107, 97] ∧ u.turn = 3 else u.by'.n = 1000000 ∧ u.by'.pos = u.pos ∧ u.turn = 0)
  lk : l.kind = 2
  lw : l.width.n = 2000000
  lr : l.paint.a.c.r = 255
  la : l.paint.a.c.a = 0
  li : l.items = []
def partB (T : List UInt8) (b : Bool) (X : PP.Src) (i : Nat) : Bool :=
  match X.consts[i]?, X.colors[i]?, X.shapes[i]?, X.cmds[2 * i]?, X.cmds[2 * i + 1]? with
  | some c, some r, some s, some f, some l =>
    match s.items, f.items, l.items with
    | [it], [u], [] =>
      match it.steps with
      | [s0, s1, s2] =>
        match s0.vs with
        | [_, v1] => decide ((c.n = 1500000 ∧ (c.pos + 2 ≤ T.length ∧ (T.drop c.pos).take 2 = [107, 97]) ∧ r.c.b = 3 ∧ v1.name = [107, 97] ∧ s2.kind = 7 ∧ (s1.pos + 1 ≤ T.length ∧ (T.drop s1.pos).take 1 = [76]))
            ∧ (f.rule = 1 ∧ f.paint.a.name = [114] ∧ (f.pos + 4 ≤ T.length ∧ (T.drop f.pos).take 4 = [102, 105, 108, 108]) ∧ u.use = true ∧ u.name = [122] ∧ (u.pos + 3 ≤ T.length ∧ (T.drop u.pos).take 3 = [117, 115, 101]))
            ∧ (if b = true then u.by'.name = [107, 97] ∧ u.turn = 3 else u.by'.n = 1000000 ∧ u.by'.pos = u.pos ∧ u.turn = 0)
            ∧ l.kind = 2 ∧ l.width.n = 2000000 ∧ l.paint.a.c.r = 255 ∧ l.paint.a.c.a = 0)
        | _ => false
      | _ => false
    | _, _, _ => false
  | _, _, _, _, _ => false
theorem partB_is {T : List UInt8} {b : Bool} {X : PP.Src} {i : Nat} (h : partB T b X i = true) : ∃ c r s f l it u s0 s1 s2 v0 v1, PartIs T b X i c r s f l it u s0 s1 s2 v0 v1 := by
  unfold partB at h
  split at h
  · rename_i c r s f l hc hr hs hf hl
    split at h
    · rename_i it u si fi li
      split at h
      · rename_i s0 s1 s2 st
        split at h
        · rename_i v0 v1 sv
          obtain ⟨⟨a1, a2, a3, a4, a5, a6⟩, ⟨b1, b2, b3, b4, b5, b6⟩, c1, d1, d2, d3, d4⟩ := of_decide_eq_true h
          exact ⟨c, r, s, f, l, it, u, s0, s1, s2, v0, v1, ⟨hc, hr, hs, hf, hl, a1, a2, a3, si, st, sv, a4, a5, a6, b1, b2, fi, b3, b4, b5, b6, c1, d1, d2, d3, d4, li⟩⟩
        · cases h
      · cases h
    · cases h
  · cases h
def srcB (T : List UInt8) (b : Bool) (n : Nat) : Except (Nat × Nat) PP.Src → Bool
  | .error _ => false
  | .ok X => decide (X.w = 4 ∧ X.h = 3 ∧ X.scale = 2 ∧ X.consts.length = n ∧ X.colors.length = n ∧ X.shapes.length = n ∧ X.cmds.length = 2 * n ∧ T.length ≤ 1000) && (List.range n).all fun i => partB T b X i
theorem srcB_is {T : List UInt8} {b : Bool} {n : Nat} {R : Except (Nat × Nat) PP.Src} (h : srcB T b n R = true) : ∃ X, R = .ok X ∧ (X.w = 4 ∧ X.h = 3 ∧ X.scale = 2 ∧ X.consts.length = n ∧ X.colors.length = n ∧ X.shapes.length = n ∧ X.cmds.length = 2 * n ∧ T.length ≤ 1000) ∧ ∀ i, i < n → ∃ c r s f l it u s0 s1 s2 v0 v1, PartIs T b X i c r s f l it u s0 s1 s2 v0 v1 := by
  cases R with
  | error e => simp [srcB] at h
  | ok X =>
    simp only [srcB, Bool.and_eq_true, List.all_eq_true, List.mem_range] at h
    exact ⟨X, rfl, of_decide_eq_true h.1, fun i hi => partB_is (h.2 i hi)⟩
set_option maxRecDepth 100000 in
theorem parts_all (b : Bool) (n : Nat) (hn : n < 5) : ∃ X, PP.src (pText b n) = .ok X ∧ (X.w = 4 ∧ X.h = 3 ∧ X.scale = 2 ∧ X.consts.length = n ∧ X.colors.length = n ∧ X.shapes.length = n ∧ X.cmds.length = 2 * n ∧ (pText b n).length ≤ 1000) ∧ ∀ i, i < n → ∃ c r s f l it u s0 s1 s2 v0 v1, PartIs (pText b n) b X i c r s f l it u s0 s1 s2 v0 v1 := by
  have : ∀ (c : Fin 2) (i : Fin 5), srcB (pText (decide (c.val = 1)) i.val) (decide (c.val = 1)) i.val (PP.src (pText (decide (c.val = 1)) i.val)) = true := by decide +kernel
  cases b
  · exact srcB_is (this 0 ⟨n, hn⟩)
  · exact srcB_is (this 1 ⟨n, hn⟩)

end Go.Proofs.YtkhclolhkpkaeaaDoor

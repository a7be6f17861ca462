/-
  What the roads of IconLimits share: walked over the program.
-/
import Derived.Test.YtmkipfgglcpfaaaDoorIconFirst
import Derived.Test.YtmkipfgglcpfaaaDoorIconLimPlain
import Derived.Test.YtmkipfgglcpfaaaDoorMem
import Derived.Test.YtmkipfgglcpfaaaDoorErrSee
namespace Go.Proofs.YtmkipfgglcpfaaaDoor
open Go.RowKit

theorem Errs13.three {w : World} {A : Nat → Addr} (h : Errs13 w A) : Errs3 w A := fun i hi => ⟨(h i (by omega)).1, (h i (by omega)).2.1⟩

theorem base_below {w w1 : World} (h : Below w.heap.size w w1) (a b c d e f : Obj) : Below w.heap.size w ((((((w1.alloc a).alloc b).alloc c).alloc d).alloc e).alloc f) := by
  have := h.size
  exact (((((h.alloc (by omega) a).alloc (by simp; omega) b).alloc (by simp; omega) c).alloc (by simp; omega) d).alloc (by simp; omega) e).alloc (by simp; omega) f

theorem base_blocks (w : World) (a b c d e f : Array Value) :
    Blk ((((((w.alloc (.cells a 36)).alloc (.cells b 36)).alloc (.cells c 46)).alloc (.cells d 27)).alloc (.cells e 36)).alloc (.cells f 39)) w.heap.size 36 a ∧
    Blk ((((((w.alloc (.cells a 36)).alloc (.cells b 36)).alloc (.cells c 46)).alloc (.cells d 27)).alloc (.cells e 36)).alloc (.cells f 39)) (w.heap.size + 1) 36 b ∧
    Blk ((((((w.alloc (.cells a 36)).alloc (.cells b 36)).alloc (.cells c 46)).alloc (.cells d 27)).alloc (.cells e 36)).alloc (.cells f 39)) (w.heap.size + 1 + 1) 46 c ∧
    Blk ((((((w.alloc (.cells a 36)).alloc (.cells b 36)).alloc (.cells c 46)).alloc (.cells d 27)).alloc (.cells e 36)).alloc (.cells f 39)) (w.heap.size + 1 + 1 + 1) 27 d ∧
    Blk ((((((w.alloc (.cells a 36)).alloc (.cells b 36)).alloc (.cells c 46)).alloc (.cells d 27)).alloc (.cells e 36)).alloc (.cells f 39)) (w.heap.size + 1 + 1 + 1 + 1) 36 e ∧
    Blk ((((((w.alloc (.cells a 36)).alloc (.cells b 36)).alloc (.cells c 46)).alloc (.cells d 27)).alloc (.cells e 36)).alloc (.cells f 39)) (w.heap.size + 1 + 1 + 1 + 1 + 1) 39 f := by
  have s : ∀ (w : World) (o : Obj), (w.alloc o).heap.size = w.heap.size + 1 := fun w o => by simp
  refine ⟨((((((blk_new w _ a).alloc _).alloc _).alloc _).alloc _).alloc _), ?_, ?_, ?_, ?_, ?_⟩
  · have := ((((blk_new (w.alloc (.cells a 36)) 36 b).alloc (.cells c 46)).alloc (.cells d 27)).alloc (.cells e 36)).alloc (.cells f 39)
    rwa [s] at this
  · have := (((blk_new ((w.alloc (.cells a 36)).alloc (.cells b 36)) 46 c).alloc (.cells d 27)).alloc (.cells e 36)).alloc (.cells f 39)
    rwa [s, s] at this
  · have := ((blk_new (((w.alloc (.cells a 36)).alloc (.cells b 36)).alloc (.cells c 46)) 27 d).alloc (.cells e 36)).alloc (.cells f 39)
    rwa [s, s, s] at this
  · have := (blk_new ((((w.alloc (.cells a 36)).alloc (.cells b 36)).alloc (.cells c 46)).alloc (.cells d 27)) 36 e).alloc (.cells f 39)
    rwa [s, s, s, s] at this
  · have := blk_new (((((w.alloc (.cells a 36)).alloc (.cells b 36)).alloc (.cells c 46)).alloc (.cells d 27)).alloc (.cells e 36)) 39 f
    rwa [s, s, s, s, s] at this

theorem cells_line {w : World} {b : Nat} (h : Blk w b 36 (IC.line.cells).toArray) : w.cell? ⟨b, 0, none⟩ = some (.int .i64 1) ∧ w.cell? ⟨b, 1, none⟩ = some (.int .i64 0) ∧ w.cell? ⟨b, 2, none⟩ = some (.int .i64 0) ∧ w.cell? ⟨b, 3, none⟩ = some (.int .i64 0) ∧ w.cell? ⟨b, 4, none⟩ = some (.int .i64 0) ∧ w.cell? ⟨b, 5, none⟩ = some (.int .i64 0) ∧ w.cell? ⟨b, 6, none⟩ = some (.int .i64 0) :=
  ⟨h.cell 0, h.cell 1, h.cell 2, h.cell 3, h.cell 4, h.cell 5, h.cell 6⟩
theorem cells_cubic {w : World} {b : Nat} (h : Blk w b 36 (IC.cubic.cells).toArray) : w.cell? ⟨b, 0, none⟩ = some (.int .i64 3) ∧ w.cell? ⟨b, 1, none⟩ = some (.int .i64 1) ∧ w.cell? ⟨b, 2, none⟩ = some (.int .i64 0) ∧ w.cell? ⟨b, 3, none⟩ = some (.int .i64 2) ∧ w.cell? ⟨b, 4, none⟩ = some (.int .i64 0) ∧ w.cell? ⟨b, 5, none⟩ = some (.int .i64 1) ∧ w.cell? ⟨b, 6, none⟩ = some (.int .i64 0) :=
  ⟨h.cell 0, h.cell 1, h.cell 2, h.cell 3, h.cell 4, h.cell 5, h.cell 6⟩
theorem cells_path {w : World} {b : Nat} {v : Value} {l : List IC.Seg} (h : Blk w b 39 (IC.pathOf v l).cells.toArray) : (w.cell? ⟨b, 0, none⟩ = some (.int .i64 0) ∧ w.cell? ⟨b, 1, none⟩ = some (.int .i64 0) ∧ w.cell? ⟨b, 2, none⟩ = some v ∧ w.cell? ⟨b, 3, none⟩ = some (.bool false)) ∧ w.frozen? ⟨b, 2, none⟩ = false :=
  ⟨⟨h.cell 0, h.cell 1, h.cell 2, h.cell 3⟩, h.frozen 2⟩
theorem cells_icon {w : World} {b : Nat} {a0 a1 a2 a3 a4 : Value} {t : TypeId} (h : Blk w b t #[a0, a1, a2, a3, a4]) : (w.cell? ⟨b, 0, none⟩ = some a0 ∧ w.cell? ⟨b, 1, none⟩ = some a1 ∧ w.cell? ⟨b, 2, none⟩ = some a2 ∧ w.cell? ⟨b, 3, none⟩ = some a3 ∧ w.cell? ⟨b, 4, none⟩ = some a4) ∧ w.frozen? ⟨b, 4, none⟩ = false :=
  ⟨⟨h.cell 0, h.cell 1, h.cell 2, h.cell 3, h.cell 4⟩, h.frozen 4⟩

theorem Own.rep {w : World} {B : Nat} {t : TypeId} {size : Nat} {α : Type} {f : α → List Value} {ad : Option Addr} {cap k : Nat} {x : α} (h : Own w B t size f ad cap (List.replicate k x ++ [x])) : Own w B t size f ad cap (List.replicate (k + 1) x) := by
  rw [List.replicate_succ']
  exact h

theorem Own.manyRep {w : World} {B : Nat} {t : TypeId} {size : Nat} {α : Type} {f : α → List Value} {ad : Option Addr} {cap k : Nat} {x : α} (h : Own w B t size f ad cap (List.replicate k x)) : Many w t size f (.slice ad k cap) (List.replicate k x) := by
  have := h.many
  rwa [List.length_replicate] at this

/-- One fill of one path, in new memory. -/
theorem one_ok {wr : World} {S N cap : Nat} {ad : Option Addr} {v4 : Value} (hb : Blk wr (S + 1 + 1) 46 (IC.Col.cells ⟨0, 0, 0, 0⟩).toArray) (ho : Own wr (S + 7) 36 7 IC.Seg.cells ad cap (List.replicate N IC.line)) :
    IconOk (((wr.setCell ⟨S + 1 + 1 + 1, 4, none⟩ v4).alloc (.cells #[.int .i64 0, .int .i64 0, .slice ad N cap, .bool false] 39)).alloc (.cells #[.int .i64 1, .int .i64 0, .int .i64 0, .int .i64 0, .int .i64 0, .int .i64 0, .int .i64 0, .int .i64 0, .int .i64 0, .int .i64 0, .slice (some ⟨wr.heap.size, 0, none⟩) 1 1] 44))
      (IC.iconOf (.slice (some ⟨S + 1 + 1, 0, none⟩) 1 1) (.slice (some ⟨wr.heap.size + 1, 0, none⟩) 1 1) [IC.fillOf (.slice (some ⟨wr.heap.size, 0, none⟩) 1 1) [IC.pathOf (.slice ad N cap) (List.replicate N IC.line)]]) := by
  have hs : (wr.setCell ⟨S + 1 + 1 + 1, 4, none⟩ v4).heap.size = wr.heap.size := by simp
  refine ⟨many_one IC.Col.cells _ rfl (((hb.far (by show S + 1 + 1 ≠ S + 1 + 1 + 1; omega) _).alloc _).alloc _), ?_, ?_⟩
  · have h := blk_new ((wr.setCell ⟨S + 1 + 1 + 1, 4, none⟩ v4).alloc (.cells #[.int .i64 0, .int .i64 0, .slice ad N cap, .bool false] 39)) 44 #[.int .i64 1, .int .i64 0, .int .i64 0, .int .i64 0, .int .i64 0, .int .i64 0, .int .i64 0, .int .i64 0, .int .i64 0, .int .i64 0, .slice (some ⟨wr.heap.size, 0, none⟩) 1 1]
    rw [size_alloc, hs] at h
    exact many_one IC.Cmd.cells (IC.fillOf (.slice (some ⟨wr.heap.size, 0, none⟩) 1 1) [IC.pathOf (.slice ad N cap) (List.replicate N IC.line)]) rfl h
  · intro c hc
    obtain rfl : c = _ := by simpa [IC.iconOf] using hc
    have h := (blk_new (wr.setCell ⟨S + 1 + 1 + 1, 4, none⟩ v4) 39 (IC.pathOf (.slice ad N cap) (List.replicate N IC.line)).cells.toArray).alloc (.cells #[.int .i64 1, .int .i64 0, .int .i64 0, .int .i64 0, .int .i64 0, .int .i64 0, .int .i64 0, .int .i64 0, .int .i64 0, .int .i64 0, .slice (some ⟨wr.heap.size, 0, none⟩) 1 1] 44)
    rw [hs] at h
    refine ⟨many_one IC.Path.cells (IC.pathOf (.slice ad N cap) (List.replicate N IC.line)) rfl h, fun p hp => ?_⟩
    obtain rfl : p = _ := by simpa [IC.fillOf] using hp
    exact (((ho.setLow (by show S + 1 + 1 + 1 < S + 7; omega) _).alloc _).alloc _).manyRep

theorem cells_fill {w : World} {b : Nat} {v : Value} {l : List IC.Path} (h : Blk w b 44 (IC.fillOf v l).cells.toArray) : (w.cell? ⟨b, 0, none⟩ = some (.int .i64 1) ∧ w.cell? ⟨b, 1, none⟩ = some (.int .i64 0) ∧ w.cell? ⟨b, 2, none⟩ = some (.int .i64 0) ∧ w.cell? ⟨b, 3, none⟩ = some (.int .i64 0) ∧ w.cell? ⟨b, 4, none⟩ = some (.int .i64 0) ∧ w.cell? ⟨b, 5, none⟩ = some (.int .i64 0) ∧ w.cell? ⟨b, 6, none⟩ = some (.int .i64 0) ∧ w.cell? ⟨b, 7, none⟩ = some (.int .i64 0) ∧ w.cell? ⟨b, 8, none⟩ = some (.int .i64 0) ∧ w.cell? ⟨b, 9, none⟩ = some (.int .i64 0) ∧ w.cell? ⟨b, 10, none⟩ = some v) ∧ w.frozen? ⟨b, 10, none⟩ = false :=
  ⟨⟨h.cell 0, h.cell 1, h.cell 2, h.cell 3, h.cell 4, h.cell 5, h.cell 6, h.cell 7, h.cell 8, h.cell 9, h.cell 10⟩, h.frozen 10⟩

/-- One fill of many paths. -/
theorem paths_ok {wr : World} {S N cap : Nat} {ad : Option Addr} {v4 : Value} (hb : Blk wr (S + 1 + 1) 46 (IC.Col.cells ⟨0, 0, 0, 0⟩).toArray) (hl : Blk wr (S + 1 + 1 + 1 + 1) 36 (IC.line.cells).toArray) (ho : Own wr (S + 7) 39 4 IC.Path.cells ad cap (List.replicate N (IC.pathOf (.slice (some ⟨S + 1 + 1 + 1 + 1, 0, none⟩) 1 1) [IC.line]))) :
    IconOk ((wr.setCell ⟨S + 1 + 1 + 1, 4, none⟩ v4).alloc (.cells #[.int .i64 1, .int .i64 0, .int .i64 0, .int .i64 0, .int .i64 0, .int .i64 0, .int .i64 0, .int .i64 0, .int .i64 0, .int .i64 0, .slice ad N cap] 44))
      (IC.iconOf (.slice (some ⟨S + 1 + 1, 0, none⟩) 1 1) (.slice (some ⟨wr.heap.size, 0, none⟩) 1 1) [IC.fillOf (.slice ad N cap) (List.replicate N (IC.pathOf (.slice (some ⟨S + 1 + 1 + 1 + 1, 0, none⟩) 1 1) [IC.line]))]) := by
  have hs : (wr.setCell ⟨S + 1 + 1 + 1, 4, none⟩ v4).heap.size = wr.heap.size := by simp
  refine ⟨many_one IC.Col.cells _ rfl ((hb.far (by show S + 1 + 1 ≠ S + 1 + 1 + 1; omega) _).alloc _), ?_, ?_⟩
  · have h := blk_new (wr.setCell ⟨S + 1 + 1 + 1, 4, none⟩ v4) 44 (IC.fillOf (.slice ad N cap) (List.replicate N (IC.pathOf (.slice (some ⟨S + 1 + 1 + 1 + 1, 0, none⟩) 1 1) [IC.line]))).cells.toArray
    rw [hs] at h
    exact many_one IC.Cmd.cells _ rfl h
  · intro c hc
    obtain rfl : c = _ := by simpa [IC.iconOf] using hc
    refine ⟨((ho.setLow (by show S + 1 + 1 + 1 < S + 7; omega) _).alloc _).manyRep, fun p hp => ?_⟩
    obtain rfl : p = _ := List.eq_of_mem_replicate hp
    exact many_one IC.Seg.cells IC.line rfl ((hl.far (by show S + 1 + 1 + 1 + 1 ≠ S + 1 + 1 + 1; omega) _).alloc _)

/-- A list of fills of one path each. -/
def Fills (w : World) (p : IC.Path) (l : List IC.Cmd) : Prop := ∀ c ∈ l, ∃ v, c = IC.fillOf v [p] ∧ Many w 39 4 IC.Path.cells v [p]

theorem Fills.kept {w w' : World} {p : IC.Path} {l : List IC.Cmd} {row : Option Nat} (h : Fills w p l) (hg : w.grownBy w' row) (hne : ∀ b, row = some b → ∀ cur, w.heap[b]? ≠ some (.cells cur 39 (0, 0))) : Fills w' p l := fun c hc => by
  obtain ⟨v, e, hm⟩ := h c hc
  exact ⟨v, e, Row.kept hm hg hne⟩

theorem Fills.below {w w' : World} {p : IC.Path} {l : List IC.Cmd} (h : Fills w p l) (hb : Below w.heap.size w w') : Fills w' p l := fun c hc => by
  obtain ⟨v, e, hm⟩ := h c hc
  exact ⟨v, e, Row.below hm hb⟩

theorem grown_set (w : World) (p : Addr) (v : Value) : w.grownBy (w.setCell p v) (some p.block) :=
  ⟨rfl, rfl, rfl, by simp, fun k _ hne => Below.heap_setCell _ _ _ _ (fun e => hne (by rw [e]))⟩

/-- The block that an own list lies in is of its own type. -/
theorem Own.typed {α : Type} {w : World} {B : Nat} {t t' : TypeId} {size : Nat} {f : α → List Value} {ad : Option Addr} {cap : Nat} {l : List α} (h : Own w B t size f ad cap l) (ht : t ≠ t') : ∀ b, ad.map (·.block) = some b → ∀ cur, w.heap[b]? ≠ some (.cells cur t' (0, 0)) := by
  intro b hb cur e
  rcases h.2 with ⟨h1, -⟩ | ⟨g, c, cur', h1, -, h3, -⟩
  · have e1 : ad = none := by simp at h1; exact h1.1
    rw [e1] at hb
    simp at hb
  · have e1 : ad = some ⟨g, 0, none⟩ := by simp at h1; exact h1.1
    rw [e1] at hb
    obtain rfl : g = b := by simpa using hb
    rw [h3] at e
    simp at e
    exact ht e.2

theorem Blk.typed {w : World} {b : Nat} {t t' : TypeId} {a : Array Value} (h : Blk w b t a) (ht : t ≠ t') : ∀ c, some b = some c → ∀ cur, w.heap[c]? ≠ some (.cells cur t' (0, 0)) := by
  intro c hc cur e
  cases hc
  unfold Blk at h
  rw [h] at e
  simp at e
  exact ht e.2

/-- Many fills of one path each. -/
theorem cmds_ok {wr : World} {S N cap : Nat} {ad : Option Addr} {l : List IC.Cmd} (hn : l.length = N) (hb : Blk wr (S + 1 + 1) 46 (IC.Col.cells ⟨0, 0, 0, 0⟩).toArray) (hl : Blk wr (S + 1 + 1 + 1 + 1) 36 (IC.line.cells).toArray) (ho : Own wr (S + 6) 44 11 IC.Cmd.cells ad cap l) (hf : Fills wr (IC.pathOf (.slice (some ⟨S + 1 + 1 + 1 + 1, 0, none⟩) 1 1) [IC.line]) l) :
    IconOk wr (IC.iconOf (.slice (some ⟨S + 1 + 1, 0, none⟩) 1 1) (.slice ad N cap) l) := by
  subst hn
  refine ⟨many_one IC.Col.cells _ rfl hb, ho.many, fun c hc => ?_⟩
  obtain ⟨v, rfl, hm⟩ := hf c hc
  refine ⟨hm, fun p hp => ?_⟩
  obtain rfl : p = _ := by simpa [IC.fillOf] using hp
  exact many_one IC.Seg.cells IC.line rfl hl

/-- A fill of one path of these segments. -/
def BigOk (w : World) (c : IC.Cmd) (segs : List IC.Seg) : Prop := ∃ v u, c = IC.fillOf v [IC.pathOf u segs] ∧ Many w 39 4 IC.Path.cells v [IC.pathOf u segs] ∧ Many w 36 7 IC.Seg.cells u segs

theorem BigOk.kept {w w' : World} {c : IC.Cmd} {segs : List IC.Seg} {row : Option Nat} (h : BigOk w c segs) (hg : w.grownBy w' row) (h1 : ∀ b, row = some b → ∀ cur, w.heap[b]? ≠ some (.cells cur 39 (0, 0))) (h2 : ∀ b, row = some b → ∀ cur, w.heap[b]? ≠ some (.cells cur 36 (0, 0))) : BigOk w' c segs := by
  obtain ⟨v, u, e, hp, hs⟩ := h
  exact ⟨v, u, e, Row.kept hp hg h1, Row.kept hs hg h2⟩

theorem BigOk.below {w w' : World} {c : IC.Cmd} {segs : List IC.Seg} (h : BigOk w c segs) (hb : Below w.heap.size w w') : BigOk w' c segs := by
  obtain ⟨v, u, e, hp, hs⟩ := h
  exact ⟨v, u, e, Row.below hp hb, Row.below hs hb⟩

theorem BigOk.cmd {w : World} {c : IC.Cmd} {segs : List IC.Seg} (h : BigOk w c segs) : CmdOk w c := by
  obtain ⟨v, u, rfl, hp, hs⟩ := h
  refine ⟨hp, fun p h => ?_⟩
  obtain rfl : p = _ := by simpa [IC.fillOf] using h
  exact hs

theorem Own.manyOf {w : World} {B : Nat} {t : TypeId} {size : Nat} {α : Type} {f : α → List Value} {ad : Option Addr} {cap k : Nat} {l : List α} (h : Own w B t size f ad cap l) (hk : l.length = k) : Many w t size f (.slice ad k cap) l := hk ▸ h.many

end Go.Proofs.YtmkipfgglcpfaaaDoor

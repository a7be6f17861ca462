/-
  What stands in memory while an icon is made, and how it stays.
-/
import Derived.Test.YtcnlkdoifogkbaaGreatDoorMake3
import Derived.Test.YtcnlkdoifogkbaaGreatDoorMake4
namespace Go.Proofs.YtcnlkdoifogkbaaGreatDoor
open Go.RowKit

/-- The block that is written is of another type: a list of structs stays. -/
theorem CmdOk.kept {w w' : World} {c : IC.Cmd} {row : Option Nat} (h : CmdOk w c) (hg : w.grownBy w' row) (h1 : ∀ b, row = some b → ∀ cur, w.heap[b]? ≠ some (.cells cur 72 (0, 0))) (h2 : ∀ b, row = some b → ∀ cur, w.heap[b]? ≠ some (.cells cur 103 (0, 0))) : CmdOk w' c :=
  ⟨Row.kept h.1 hg h1, fun p hp => Row.kept (h.2 p hp) hg h2⟩

theorem Blk.not {w : World} {b : Nat} {t t' : TypeId} {a : Array Value} (h : Blk w b t a) (ht : t ≠ t') : ∀ c, some b = some c → ∀ cur, w.heap[c]? ≠ some (.cells cur t' (0, 0)) := by
  intro c hc cur e
  cases hc
  unfold Blk at h
  rw [h] at e
  simp at e
  exact ht e.2

theorem Own.not {α : Type} {w : World} {B : Nat} {t t' : TypeId} {size : Nat} {f : α → List Value} {ad : Option Addr} {cap : Nat} {l : List α} (h : Own w B t size f ad cap l) (ht : t ≠ t') : ∀ b, ad.map (·.block) = some b → ∀ cur, w.heap[b]? ≠ some (.cells cur t' (0, 0)) := by
  intro b hb cur e
  rcases h.2 with ⟨h1, -⟩ | ⟨g, c, cur', h1, -, h3, -⟩
  · have e1 : ad = none := by simp at h1; exact h1.1
    rw [e1] at hb
    simp at hb
  · have e1 : ad = some ⟨g, 0, none⟩ := by simp at h1; exact h1.1
    rw [e1] at hb
    obtain rfl : g = b := by simpa using hb
    rw [h3] at e
    simp at e
    exact ht e.2

theorem SeqOk.not {w : World} {q m : Nat} {t' : TypeId} (h : SeqOk w q m) (ht : 31 ≠ t') : ∀ c, some q = some c → ∀ cur, w.heap[c]? ≠ some (.cells cur t' (0, 0)) := by
  obtain ⟨_, _, _, _, hb, _⟩ := h
  exact hb.not ht

/-- Two lists, or a list and a block, of two types lie apart. -/
theorem Own.apart {α : Type} {w : World} {B b : Nat} {t t' : TypeId} {size : Nat} {f : α → List Value} {ad : Option Addr} {cap : Nat} {l : List α} {a : Array Value} (h : Own w B t size f ad cap l) (hb : Blk w b t' a) (ht : t ≠ t') : ∀ x, ad = some x → b ≠ x.block := by
  intro x e hx
  exact h.not ht x.block (by rw [e]; rfl) a (by rw [← hx]; exact hb)

theorem Own.apart2 {α β : Type} {w : World} {B B' : Nat} {t t' : TypeId} {size size' : Nat} {f : α → List Value} {f' : β → List Value} {ad ad' : Option Addr} {cap cap' : Nat} {l : List α} {l' : List β} (h : Own w B t size f ad cap l) (h' : Own w B' t' size' f' ad' cap' l') (ht : t ≠ t') : ∀ x y, ad = some x → ad' = some y → x.block ≠ y.block := by
  intro x y e e' hx
  rcases h'.2 with ⟨h1, -⟩ | ⟨g, c, cur', h1, -, h3, -⟩
  · have e1 : ad' = none := by simp at h1; exact h1.1
    rw [e1] at e'
    cases e'
  · have e1 : ad' = some ⟨g, 0, none⟩ := by simp at h1; exact h1.1
    rw [e1] at e'
    cases e'
    exact h.not ht x.block (by rw [e]; rfl) cur' (by rw [hx]; exact h3)

/-- An own list stays where another block is written. -/
theorem Own.other {α : Type} {w w' : World} {B : Nat} {t : TypeId} {size : Nat} {f : α → List Value} {ad : Option Addr} {cap : Nat} {l : List α} {row : Option Nat} (h : Own w B t size f ad cap l) (hg : w.grownBy w' row) (hne : ∀ x, ad = some x → some x.block ≠ row) : Own w' B t size f ad cap l :=
  h.kept fun a e => hg.block _ (h.lt a e).2 (hne a e)

theorem Blk.other {w w' : World} {b : Nat} {t : TypeId} {a : Array Value} {row : Option Nat} (h : Blk w b t a) (hg : w.grownBy w' row) (hne : some b ≠ row) : Blk w' b t a := (hg.block b h.lt hne).trans h

theorem grown_set (w : World) (p : Addr) (v : Value) : w.grownBy (w.setCell p v) (some p.block) :=
  ⟨rfl, rfl, rfl, by simp, fun k _ hne => Below.heap_setCell _ _ _ _ (fun e => hne (by rw [e]))⟩

theorem grown_below {w w' : World} (h : Below w.heap.size w w') (row : Option Nat) : w.grownBy w' row := ⟨h.os, h.tape, h.output, h.size, fun k hk _ => h.block k hk⟩

theorem Row.apart {w w' : World} {t : TypeId} {size n : Nat} {v : Value} {xs : List Value} {row : Option Nat} (h : Row w t size v n xs) (hg : w.grownBy w' row) (hne : ∀ a k cap, v = .slice (some a) k cap → some a.block ≠ row) : Row w' t size v n xs := by
  refine ⟨h.1, ?_⟩
  rcases h.2 with h | ⟨g, o, cap, h1, h2, h3, h4, ⟨cur, h5⟩, h6⟩
  · exact .inl h
  · have hr : some g ≠ row := hne _ _ _ h1
    exact .inr ⟨g, o, cap, h1, h2, h3, Nat.lt_of_lt_of_le h4 hg.size, ⟨cur, by rw [hg.block g h4 hr]; exact h5⟩, fun j u hj => hg.cell (a := ⟨g, o + j, none⟩) (h6 j u hj) hr⟩

/-- The icon that is made: its box, its colors, its commands. -/
structure IcSt (q m R ib : Nat) (w : World) (a0 a1 a2 : Int) (ad : Option Addr) (cap : Nat) (cols : List IC.Col) (adm : Option Addr) (capm : Nat) (cmds : List IC.Cmd) (w' : World) : Prop where
  seq : SeqOk w' q m
  res : Blk w' R 27 #[.int .i64 0, .int .i64 0, .int .i64 0, .slice none 0 0, .slice none 0 0]
  box : Blk w' ib 27 #[.int .i64 a0, .int .i64 a1, .int .i64 a2, .slice ad cols.length cap, .slice adm cmds.length capm]
  cs : Own w' (ib + 1) 66 4 IC.Col.cells ad cap cols
  ms : Own w' (ib + 1) 62 11 IC.Cmd.cells adm capm cmds
  ok : ∀ c ∈ cmds, CmdOk w' c
  made : Mk q w w'
  lt : q < R ∧ R < ib ∧ w.heap.size ≤ R

/-- Beside it the command that is made: its box, its paths. -/
structure CmSt (q m R ib cb : Nat) (w : World) (a0 a1 a2 : Int) (ad : Option Addr) (cap : Nat) (cols : List IC.Col) (adm : Option Addr) (capm : Nat) (cmds : List IC.Cmd) (adp : Option Addr) (capp : Nat) (c : IC.Cmd) (w' : World) : Prop where
  ic : IcSt q m R ib w a0 a1 a2 ad cap cols adm capm cmds w'
  cbx : Blk w' cb 62 c.cells.toArray
  ps : Own w' (cb + 1) 72 4 IC.Path.cells adp capp c.paths
  vp : c.vp = .slice adp c.paths.length capp
  pok : ∀ p ∈ c.paths, PathOk w' p
  far : ∀ x, adm = some x → x.block ≠ cb
  ltc : ib < cb
  old : ∀ c ∈ cmds, ∀ a k cap, c.vp = .slice (some a) k cap → a.block < cb

section
variable {q m m' R ib cb : Nat} {w w' w'' : World} {a0 a1 a2 : Int} {ad : Option Addr} {cap : Nat} {cols : List IC.Col} {adm : Option Addr} {capm : Nat} {cmds : List IC.Cmd} {adp : Option Addr} {capp : Nat} {c c' : IC.Cmd}

theorem IcSt.next (h : IcSt q m R ib w a0 a1 a2 ad cap cols adm capm cmds w') (hm : Mk q w' w'') (hs : SeqOk w'' q m') : IcSt q m' R ib w a0 a1 a2 ad cap cols adm capm cmds w'' :=
  ⟨hs, h.res.mk hm (by have := h.lt; omega), h.box.mk hm (by have := h.lt; omega), h.cs.mk hm (by have := h.lt; omega), h.ms.mk hm (by have := h.lt; omega), fun c hc => (h.ok c hc).kept hm (h.seq.not (by decide)) (h.seq.not (by decide)), h.made.trans hm, h.lt⟩

theorem CmSt.next (h : CmSt q m R ib cb w a0 a1 a2 ad cap cols adm capm cmds adp capp c w') (hm : Mk q w' w'') (hs : SeqOk w'' q m') : CmSt q m' R ib cb w a0 a1 a2 ad cap cols adm capm cmds adp capp c w'' :=
  ⟨h.ic.next hm hs, h.cbx.mk hm (by have := h.ic.lt; have := h.ltc; omega), h.ps.mk hm (by have := h.ic.lt; have := h.ltc; omega), h.vp, fun p hp => Row.kept (h.pok p hp) hm (h.ic.seq.not (by decide)), h.far, h.ltc, h.old⟩

theorem CmSt.mono (h : CmSt q m R ib cb w a0 a1 a2 ad cap cols adm capm cmds adp capp c w') (hm : m ≤ m') : CmSt q m' R ib cb w a0 a1 a2 ad cap cols adm capm cmds adp capp c w' :=
  h.next (Mk.refl _ _) (h.ic.seq.mono hm)

theorem IcSt.below (h : IcSt q m R ib w a0 a1 a2 ad cap cols adm capm cmds w') (hb : Below w'.heap.size w' w'') : IcSt q m R ib w a0 a1 a2 ad cap cols adm capm cmds w'' :=
  h.next (Mk.below hb) (h.seq.keep (hb.mono h.seq.lt))
theorem CmSt.below (h : CmSt q m R ib cb w a0 a1 a2 ad cap cols adm capm cmds adp capp c w') (hb : Below w'.heap.size w' w'') : CmSt q m R ib cb w a0 a1 a2 ad cap cols adm capm cmds adp capp c w'' :=
  h.next (Mk.below hb) (h.ic.seq.keep (hb.mono h.ic.seq.lt))

/-- A new command's box. -/
theorem IcSt.box_new (h : IcSt q m R ib w a0 a1 a2 ad cap cols adm capm cmds w') (hp : c.paths = []) (hv : c.vp = .slice none 0 0) : CmSt q m R ib w'.heap.size w a0 a1 a2 ad cap cols adm capm cmds none 0 c (w'.alloc (.cells c.cells.toArray 62)) :=
  ⟨h.below ((Below.refl _ _).alloc (Nat.le_refl _) _), blk_new w' 62 _, by rw [hp]; exact own_nil _ _ _ _ _, by rw [hv, hp]; rfl, by rw [hp]; exact fun _ h => absurd h (by simp), fun x e => by have := (h.ms.lt x e).2; omega, h.box.lt, fun c hc a k cap e => by
    rcases (h.ok c hc).1.2 with ⟨e', -⟩ | ⟨g, o, cap', e', _, _, hg, _⟩
    · rw [e] at e'; cases e'
    · rw [e] at e'; cases e'; exact hg⟩

/-- A store into the command's box, elsewhere than its paths. -/
theorem CmSt.set (h : CmSt q m R ib cb w a0 a1 a2 ad cap cols adm capm cmds adp capp c w') (j : Nat) (v : Value) (hc : c'.cells.toArray = c.cells.toArray.setIfInBounds j v) (hp : c'.paths = c.paths) (hv : c'.vp = c.vp) :
    CmSt q m R ib cb w a0 a1 a2 ad cap cols adm capm cmds adp capp c' (w'.setCell ⟨cb, j, none⟩ v) := by
  have hg := grown_set w' ⟨cb, j, none⟩ v
  have hl := h.ic.lt
  have hc' := h.ltc
  refine ⟨⟨h.ic.seq.set (by show q < cb; omega) _, h.ic.res.far (by show R ≠ cb; omega) _, h.ic.box.far (by show ib ≠ cb; omega) _, h.ic.cs.other hg (fun x e e' => h.ic.cs.apart h.cbx (by decide) x e (by simp at e'; omega)), h.ic.ms.other hg (fun x e e' => h.far x e (by simp at e'; exact e')), fun c hc => (h.ic.ok c hc).kept hg (h.cbx.not (by decide)) (h.cbx.not (by decide)), h.ic.made.set (by show w.heap.size ≤ cb; omega) _, hl⟩, ?_, ?_, ?_, ?_, h.far, hc', h.old⟩
  · rw [hc]; exact h.cbx.set _
  · rw [hp]; exact h.ps.setLow (by show cb < cb + 1; omega) _
  · rw [hv, hp]; exact h.vp
  · rw [hp]; exact fun p hp => Row.kept (h.pok p hp) hg (h.cbx.not (by decide))

/-- A color is added. -/
theorem CmSt.add (h : CmSt q m R ib cb w a0 a1 a2 ad cap cols adm capm cmds adp capp c w') {x : IC.Col} {ad' : Option Addr} {cap' : Nat} (ho : Own w'' (ib + 1) 66 4 IC.Col.cells ad' cap' (cols ++ [x])) (ha : Added w' ib ad (.slice ad' (cols.length + 1) cap') w'') :
    CmSt q m R ib cb w a0 a1 a2 ad' cap' (cols ++ [x]) adm capm cmds adp capp c w'' := by
  obtain ⟨w0, w1, hb, hg, rfl⟩ := ha
  have h0 := h.below hb
  have hl := h.ic.lt
  have hc' := h.ltc
  have hne : ∀ z, ad = some z → ib + 1 ≤ z.block := fun z e => (h0.ic.cs.lt z e).1
  have hs := grown_set w1 ⟨ib, 3, none⟩ (.slice ad' (cols.length + 1) cap')
  have hbx := h0.ic.box.grown hg (fun z e => by have := hne z e; omega)
  have hcb := h0.cbx.grown hg (h0.ic.cs.apart h0.cbx (by decide))
  have hlen : (cols ++ [x]).length = cols.length + 1 := by simp
  have hms : Own w1 (ib + 1) 62 11 IC.Cmd.cells adm capm cmds := h0.ic.ms.other hg (fun z e e' => by
    cases had : ad with
    | none => rw [had] at e'; simp at e'
    | some y => rw [had] at e'; exact h0.ic.ms.apart2 h0.ic.cs (by decide) z y e had (by simpa using e'))
  have hps : Own w1 (cb + 1) 72 4 IC.Path.cells adp capp c.paths := h0.ps.other hg (fun z e e' => by
    cases had : ad with
    | none => rw [had] at e'; simp at e'
    | some y => rw [had] at e'; exact h0.ps.apart2 h0.ic.cs (by decide) z y e had (by simpa using e'))
  refine ⟨⟨((h0.ic.seq.grown hg (fun z e => by have := hne z e; omega)).set (by show q < ib; omega) _), (h0.ic.res.grown hg (fun z e => by have := hne z e; omega)).far (by show R ≠ ib; omega) _, ?_, ho, hms.setLow (by show ib < ib + 1; omega) _, fun c hc => ((h0.ic.ok c hc).kept hg (h0.ic.cs.not (by decide)) (h0.ic.cs.not (by decide))).kept hs (hbx.not (by decide)) (hbx.not (by decide)), (h0.ic.made.grown hg (fun z e => by have := hne z e; omega)).set (by show w.heap.size ≤ ib; omega) _, hl⟩, hcb.far (by show cb ≠ ib; omega) _, hps.setLow (by show ib < cb + 1; omega) _, h.vp, fun p hp => Row.kept (Row.kept (h0.pok p hp) hg (h0.ic.cs.not (by decide))) hs (hbx.not (by decide)), h.far, hc', h.old⟩
  rw [hlen]
  exact hbx.set (j := 3) _

/-- A path is put behind the others. -/
theorem CmSt.push (h : CmSt q m R ib cb w a0 a1 a2 ad cap cols adm capm cmds adp capp c w') {p : IC.Path} {o : Obj} {adp' : Option Addr} {capp' : Nat} {w0 : World} (h0 : w0 = w'.alloc o ∨ w0 = w'.drew.alloc o ∨ w0 = (w'.alloc o).drew) (hg : w0.grownBy w'' (adp.map (·.block))) (ho : Own w'' (cb + 1) 72 4 IC.Path.cells adp' capp' (c.paths ++ [p])) (hp : PathOk w' p)
    (hc : c'.cells.toArray = c.cells.toArray.setIfInBounds 10 (.slice adp' (c.paths.length + 1) capp')) (hv : c'.vp = .slice adp' (c.paths.length + 1) capp') (hps : c'.paths = c.paths ++ [p]) :
    CmSt q m R ib cb w a0 a1 a2 ad cap cols adm capm cmds adp' capp' c' (w''.setCell ⟨cb, 10, none⟩ (.slice adp' (c.paths.length + 1) capp')) := by
  have hb : Below w'.heap.size w' w0 := by
    rcases h0 with rfl | rfl | rfl
    · exact (Below.refl _ _).alloc (Nat.le_refl _) _
    · exact ((Below.refl _ _).drew).alloc (Nat.le_refl _) _
    · exact ((Below.refl _ _).alloc (Nat.le_refl _) _).drew
  have k := h.below hb
  have hp0 : PathOk w0 p := Row.below hp hb
  have hl := h.ic.lt
  have hc' := h.ltc
  have hne : ∀ z, adp = some z → cb + 1 ≤ z.block := fun z e => (k.ps.lt z e).1
  have hlow : ∀ b, b ≤ cb → ∀ z, adp = some z → b ≠ z.block := fun b hb z e => by have := hne z e; omega
  have hnot := fun t' (ht : 72 ≠ t') => k.ps.not (t' := t') ht
  have hs := grown_set w'' ⟨cb, 10, none⟩ (.slice adp' (c.paths.length + 1) capp')
  have hcb := k.cbx.grown hg (hlow cb (Nat.le_refl _))
  have hcs : Own w'' (ib + 1) 66 4 IC.Col.cells ad cap cols := k.ic.cs.other hg (fun z e e' => by
    cases had : adp with
    | none => rw [had] at e'; simp at e'
    | some y => rw [had] at e'; exact k.ic.cs.apart2 k.ps (by decide) z y e had (by simpa using e'))
  have hms : Own w'' (ib + 1) 62 11 IC.Cmd.cells adm capm cmds := k.ic.ms.other hg (fun z e e' => by
    cases had : adp with
    | none => rw [had] at e'; simp at e'
    | some y => rw [had] at e'; exact k.ic.ms.apart2 k.ps (by decide) z y e had (by simpa using e'))
  have hok : ∀ c ∈ cmds, CmdOk w'' c := fun c hc => ⟨Row.apart (k.ic.ok c hc).1 hg (fun a n cap e e' => by
    have h1 := h.old c hc a n cap e
    cases had : adp with
    | none => rw [had] at e'; simp at e'
    | some y =>
      have h2 := hne y had
      rw [had] at e'
      simp at e'
      omega), fun p hp => Row.kept ((k.ic.ok c hc).2 p hp) hg (hnot _ (by decide))⟩
  refine ⟨⟨(k.ic.seq.grown hg (fun z e => by have := hne z e; omega)).set (by show q < cb; omega) _, (k.ic.res.grown hg (hlow R (by omega))).far (by show R ≠ cb; omega) _, (k.ic.box.grown hg (hlow ib (by omega))).far (by show ib ≠ cb; omega) _, hcs.other hs (fun x e e' => hcs.apart hcb (by decide) x e (by simp at e'; omega)), hms.other hs (fun x e e' => h.far x e (by simp at e'; exact e')), fun c hc => (hok c hc).kept hs (hcb.not (by decide)) (hcb.not (by decide)), (k.ic.made.grown hg (fun z e => by have := hne z e; omega)).set (by show w.heap.size ≤ cb; omega) _, hl⟩, ?_, ?_, ?_, ?_, h.far, hc', h.old⟩
  · rw [hc]; exact hcb.set _
  · rw [hps]; exact ho.setLow (by show cb < cb + 1; omega) _
  · rw [hv, hps]; simp
  · rw [hps]
    intro p' hp'
    rcases List.mem_append.1 hp' with h1 | h1
    · exact Row.kept (Row.kept (k.pok p' h1) hg (hnot _ (by decide))) hs (hcb.not (by decide))
    · obtain rfl : p' = p := List.mem_singleton.1 h1
      exact Row.kept (Row.kept hp0 hg (hnot _ (by decide))) hs (hcb.not (by decide))

/-- The command is put behind the others. -/
theorem CmSt.done (h : CmSt q m R ib cb w a0 a1 a2 ad cap cols adm capm cmds adp capp c w') {o : Obj} {adm' : Option Addr} {capm' : Nat} (hg : (w'.alloc o).grownBy w'' (adm.map (·.block))) (ho : Own w'' (ib + 1) 62 11 IC.Cmd.cells adm' capm' (cmds ++ [c])) :
    IcSt q m R ib w a0 a1 a2 ad cap cols adm' capm' (cmds ++ [c]) (w''.setCell ⟨ib, 4, none⟩ (.slice adm' (cmds.length + 1) capm')) := by
  have hb : Below w'.heap.size w' (w'.alloc o) := (Below.refl _ _).alloc (Nat.le_refl _) _
  have k := h.below hb
  have hl := h.ic.lt
  have hc' := h.ltc
  have hne : ∀ z, adm = some z → ib + 1 ≤ z.block := fun z e => (k.ic.ms.lt z e).1
  have hlow : ∀ b, b ≤ ib → ∀ z, adm = some z → b ≠ z.block := fun b hb z e => by have := hne z e; omega
  have hnot := fun t' (ht : 62 ≠ t') => k.ic.ms.not (t' := t') ht
  have hs := grown_set w'' ⟨ib, 4, none⟩ (.slice adm' (cmds.length + 1) capm')
  have hbx := k.ic.box.grown hg (hlow ib (Nat.le_refl _))
  have hlen : (cmds ++ [c]).length = cmds.length + 1 := by simp
  have hcs : Own w'' (ib + 1) 66 4 IC.Col.cells ad cap cols := k.ic.cs.other hg (fun z e e' => by
    cases had : adm with
    | none => rw [had] at e'; simp at e'
    | some y => rw [had] at e'; exact k.ic.cs.apart2 k.ic.ms (by decide) z y e had (by simpa using e'))
  refine ⟨(k.ic.seq.grown hg (fun z e => by have := hne z e; omega)).set (by show q < ib; omega) _, (k.ic.res.grown hg (hlow R (by omega))).far (by show R ≠ ib; omega) _, ?_, hcs.setLow (by show ib < ib + 1; omega) _, ho.setLow (by show ib < ib + 1; omega) _, ?_, (k.ic.made.grown hg (fun z e => by have := hne z e; omega)).set (by show w.heap.size ≤ ib; omega) _, hl⟩
  · rw [hlen]; exact hbx.set (j := 4) _
  · intro c' hc'
    rcases List.mem_append.1 hc' with h1 | h1
    · exact ((k.ic.ok c' h1).kept hg (hnot _ (by decide)) (hnot _ (by decide))).kept hs (hbx.not (by decide)) (hbx.not (by decide))
    · obtain rfl : c' = c := List.mem_singleton.1 h1
      have hcm : CmdOk (w'.alloc o) c' := ⟨by rw [k.vp]; exact k.ps.many, k.pok⟩
      exact (hcm.kept hg (hnot _ (by decide)) (hnot _ (by decide))).kept hs (hbx.not (by decide)) (hbx.not (by decide))

/-- Stores into the result's own block. -/
theorem IcSt.out (h : IcSt q m R ib w a0 a1 a2 ad cap cols adm capm cmds w') (v0 v1 v2 v3 v4 : Value) :
    IconOk (((((w'.setCell ⟨R, 0, none⟩ v0).setCell ⟨R, 1, none⟩ v1).setCell ⟨R, 2, none⟩ v2).setCell ⟨R, 3, none⟩ v3).setCell ⟨R, 4, none⟩ v4) ⟨a0, a1, a2, .slice ad cols.length cap, cols, .slice adm cmds.length capm, cmds⟩ ∧
    SeqOk (((((w'.setCell ⟨R, 0, none⟩ v0).setCell ⟨R, 1, none⟩ v1).setCell ⟨R, 2, none⟩ v2).setCell ⟨R, 3, none⟩ v3).setCell ⟨R, 4, none⟩ v4) q m ∧
    Mk q w (((((w'.setCell ⟨R, 0, none⟩ v0).setCell ⟨R, 1, none⟩ v1).setCell ⟨R, 2, none⟩ v2).setCell ⟨R, 3, none⟩ v3).setCell ⟨R, 4, none⟩ v4) := by
  have hl := h.lt
  have hR : R < ib + 1 := by omega
  have b1 := h.res.set (j := 0) v0
  have b2 := b1.set (j := 1) v1
  have b3 := b2.set (j := 2) v2
  have b4 := b3.set (j := 3) v3
  refine ⟨⟨(((((h.cs.setLow hR v0).setLow hR v1).setLow hR v2).setLow hR v3).setLow hR v4).many, (((((h.ms.setLow hR v0).setLow hR v1).setLow hR v2).setLow hR v3).setLow hR v4).many, fun c hc => ?_⟩, ((((h.seq.set hl.1 v0).set hl.1 v1).set hl.1 v2).set hl.1 v3).set hl.1 v4, ((((h.made.set hl.2.2 v0).set hl.2.2 v1).set hl.2.2 v2).set hl.2.2 v3).set hl.2.2 v4⟩
  exact (((((h.ok c hc).kept (grown_set _ ⟨R, 0, none⟩ v0) (h.res.not (by decide)) (h.res.not (by decide))).kept (grown_set _ ⟨R, 1, none⟩ v1) (b1.not (by decide)) (b1.not (by decide))).kept (grown_set _ ⟨R, 2, none⟩ v2) (b2.not (by decide)) (b2.not (by decide))).kept (grown_set _ ⟨R, 3, none⟩ v3) (b3.not (by decide)) (b3.not (by decide))).kept (grown_set _ ⟨R, 4, none⟩ v4) (b4.not (by decide)) (b4.not (by decide))

end
end Go.Proofs.YtcnlkdoifogkbaaGreatDoor

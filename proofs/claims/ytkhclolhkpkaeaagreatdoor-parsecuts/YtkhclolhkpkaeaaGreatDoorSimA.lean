import Derived.Test.YtkhclolhkpkaeaaGreatDoorParseLe
import Derived.Test.YtkhclolhkpkaeaaGreatDoorParseFit
/-
  What the parser's pieces keep: a relation of steps that is kept by reading one word on, by failing, and by going on as the next word says, is kept by each piece.
-/
namespace Go.Proofs.YtkhclolhkpkaeaaGreatDoor
namespace PP

/-- Of functions of the state: closed under doing nothing, one behind the other, going on as the next word says, one word on, failing. -/
structure Cl (P : (St → St) → Prop) : Prop where
  none' : P (fun s => s)
  comp' : ∀ (f g : St → St), P f → P g → P (fun s => g (f s))
  bind' : ∀ (F : WP.W → St → St), (∀ w, P (F w)) → P (fun s => F s.nx s)
  tl' : P (fun s => s.tl)
  fail' : P (fun s => s.fail 0)
  turn' : P (fun s => (turn s).2)

theorem Cl.seq {P : (St → St) → Prop} (h : Cl P) {k : St → St} (f g : St → St) (hf : P f) (hg : P g) (hk : ∀ s, k s = g (f s)) : P k := by
  rw [show k = fun s => g (f s) from funext hk]; exact h.comp' f g hf hg
theorem Cl.nxt {P : (St → St) → Prop} (h : Cl P) {k : St → St} (F : WP.W → St → St) (hF : ∀ w, P (F w)) (hk : ∀ s, k s = F s.nx s) : P k := by
  rw [show k = fun s => F s.nx s from funext hk]; exact h.bind' F hF
theorem Cl.ite {P : (St → St) → Prop} (h : Cl P) {k : St → St} (t : WP.W → Bool) (f g : St → St) (hf : P f) (hg : P g) (hk : ∀ s, k s = if t s.nx = true then f s else g s) : P k :=
  h.nxt (fun w s => if t w = true then f s else g s) (fun w => by
    cases t w
    · exact hg
    · exact hf) hk

theorem use_st (s : St) : (use s).2 = ((useTurn (useBy 0 (val (val ((nameW (s.skip k_use)).2.skip k_at)).2).2).2).2).skip m_semi := by
  have hu : ∀ p s, (useBy p s).2 = (useBy 0 s).2 := fun p s => by unfold useBy; split <;> rfl
  unfold use
  simp only [hu s.nx.2.1]

theorem cl_failTl {P : (St → St) → Prop} (h : Cl P) : P (fun s => (s.fail 0).tl) := h.comp' _ _ h.fail' h.tl'
theorem cl_skip {P : (St → St) → Prop} (h : Cl P) (t : Tx) : P (fun s => s.skip t) := h.ite (fun w => w.2.2 == t) _ _ h.tl' h.fail' (fun _ => rfl)
theorem cl_need {P : (St → St) → Prop} (h : Cl P) (k : Nat) : P (fun s => s.need k) := h.ite (fun w => decide (w.1 = k)) _ _ h.none' h.fail' (fun s => by
  unfold St.need; by_cases e : s.nx.1 = k <;> simp [e])
theorem cl_numb {P : (St → St) → Prop} (h : Cl P) : P (fun s => (numb s).2) := h.ite (fun w => (NP.parse w.2.2).isSome) _ _ h.tl' (cl_failTl h) (fun s => by
  unfold numb; cases e : NP.parse s.nx.2.2 <;> simp)
theorem cl_colr {P : (St → St) → Prop} (h : Cl P) : P (fun s => (colr s).2) := h.ite (fun w => (colOf w.2.2).isSome) _ _ h.tl' (cl_failTl h) (fun s => by
  unfold colr; cases e : colOf s.nx.2.2 <;> simp)
theorem cl_whol {P : (St → St) → Prop} (h : Cl P) : P (fun s => (whol s).2) := h.ite (fun w => (NP.whole w.2.2).isSome) _ _ h.tl' (cl_failTl h) (fun s => by
  unfold whol; cases e : NP.whole s.nx.2.2 <;> simp)
theorem cl_name {P : (St → St) → Prop} (h : Cl P) : P (fun s => (nameW s).2) := h.seq _ _ (cl_need h 1) h.tl' (fun _ => rfl)
theorem cl_val {P : (St → St) → Prop} (h : Cl P) : P (fun s => (val s).2) := h.ite (fun w => decide (w.1 = 1)) _ _ h.tl' (cl_numb h) (fun s => by
  unfold val; by_cases e : s.nx.1 = 1 <;> simp [e])
theorem cl_ref {P : (St → St) → Prop} (h : Cl P) : P (fun s => (ref s).2) := h.ite (fun w => decide (w.1 = 1)) _ _ h.tl' (cl_colr h) (fun s => by
  unfold ref; by_cases e : s.nx.1 = 1 <;> simp [e])
theorem cl_vals {P : (St → St) → Prop} (h : Cl P) : ∀ k, P (fun s => (vals k s).2)
  | 0 => h.none'
  | k + 1 => h.seq _ _ (cl_val h) (cl_vals h k) (fun _ => rfl)
theorem cl_step {P : (St → St) → Prop} (h : Cl P) : P (fun s => (step s).2) := h.nxt (fun w s => (vals (letter w.2.2).2 s.tl).2) (fun w => h.seq _ _ h.tl' (cl_vals h (letter w.2.2).2) (fun _ => rfl)) (fun _ => rfl)
theorem cl_path {P : (St → St) → Prop} (h : Cl P) (hs : P (fun s => (steps s).2)) : P (fun s => (path s).2) := h.seq _ _ (h.seq _ _ (cl_skip h k_path) hs (fun _ => rfl)) (cl_skip h m_semi) (fun _ => rfl)
theorem cl_useBy {P : (St → St) → Prop} (h : Cl P) (p : Nat) : P (fun s => (useBy p s).2) := h.ite (fun w => w.2.2 == k_by) _ _ (h.seq _ _ h.tl' (cl_val h) (fun _ => rfl)) h.none' (fun s => by
  unfold useBy St.is; cases e : (s.nx.2.2 == k_by) <;> simp)
theorem cl_useTurn {P : (St → St) → Prop} (h : Cl P) : P (fun s => (useTurn s).2) := h.ite (fun w => w.2.2 == k_turn) _ _ (h.seq _ _ h.tl' h.turn' (fun _ => rfl)) h.none' (fun s => by
  unfold useTurn St.is; cases e : (s.nx.2.2 == k_turn) <;> simp)
theorem cl_use {P : (St → St) → Prop} (h : Cl P) : P (fun s => (use s).2) := by
  have a1 : P (fun s => (nameW (s.skip k_use)).2) := h.seq _ _ (cl_skip h k_use) (cl_name h) (fun _ => rfl)
  have a2 : P (fun s => (nameW (s.skip k_use)).2.skip k_at) := h.seq _ _ a1 (cl_skip h k_at) (fun _ => rfl)
  have a3 : P (fun s => (val ((nameW (s.skip k_use)).2.skip k_at)).2) := h.seq _ _ a2 (cl_val h) (fun _ => rfl)
  have a4 : P (fun s => (val (val ((nameW (s.skip k_use)).2.skip k_at)).2).2) := h.seq _ _ a3 (cl_val h) (fun _ => rfl)
  have a5 : P (fun s => (useBy 0 (val (val ((nameW (s.skip k_use)).2.skip k_at)).2).2).2) := h.seq _ _ a4 (cl_useBy h 0) (fun _ => rfl)
  have a6 : P (fun s => (useTurn (useBy 0 (val (val ((nameW (s.skip k_use)).2.skip k_at)).2).2).2).2) := h.seq _ _ a5 (cl_useTurn h) (fun _ => rfl)
  exact h.seq _ _ a6 (cl_skip h m_semi) (fun s => use_st s)
theorem cl_item {P : (St → St) → Prop} (h : Cl P) (hs : P (fun s => (steps s).2)) : P (fun s => (item s).2) := h.ite (fun w => w.2.2 == k_path) _ _ (cl_path h hs) (cl_use h) (fun s => by
  unfold item St.is; cases e : (s.nx.2.2 == k_path) <;> simp)
theorem cl_rule {P : (St → St) → Prop} (h : Cl P) : P (fun s => (rule s).2) := h.ite (fun w => w.2.2 == k_nonzero) _ _ h.tl' (cl_skip h k_evenodd) (fun s => by
  unfold rule St.is; cases e : (s.nx.2.2 == k_nonzero) <;> simp)
theorem cl_between {P : (St → St) → Prop} (h : Cl P) (k n : Nat) : P (fun s => (between k n s).2) := h.seq _ _ (h.seq _ _ (cl_ref h) (cl_ref h) (fun _ => rfl)) (cl_vals h n) (fun _ => rfl)
theorem cl_paint {P : (St → St) → Prop} (h : Cl P) : P (fun s => (paint s).2) := h.ite (fun w => w.2.2 == k_linear) _ _ (h.seq _ _ h.tl' (cl_between h 1 4) (fun _ => rfl))
  (h.ite (fun w => w.2.2 == k_radial) _ _ (h.seq _ _ h.tl' (cl_between h 2 3) (fun _ => rfl)) (cl_ref h) (fun _ => rfl)) (fun s => by
  unfold paint St.is; cases e : (s.nx.2.2 == k_linear) <;> cases f : (s.nx.2.2 == k_radial) <;> simp)
theorem cl_cmd {P : (St → St) → Prop} (h : Cl P) (hi : P (fun s => (items s).2)) : P (fun s => (cmd s).2) := h.ite (fun w => w.2.2 == k_fill) _ _
  (h.seq _ _ (h.seq _ _ (h.seq _ _ h.tl' (cl_rule h) (fun _ => rfl)) (cl_paint h) (fun _ => rfl)) hi (fun _ => rfl))
  (h.seq _ _ (h.seq _ _ (h.seq _ _ (cl_skip h k_line) (cl_val h) (fun _ => rfl)) (cl_paint h) (fun _ => rfl)) hi (fun _ => rfl)) (fun s => by
  unfold cmd St.is; cases e : (s.nx.2.2 == k_fill) <;> simp)
theorem cl_const {P : (St → St) → Prop} (h : Cl P) : P (fun s => (const s).2) := h.seq _ _ (h.seq _ _ (h.seq _ _ (cl_name h) (cl_skip h m_eq) (fun _ => rfl)) (cl_numb h) (fun _ => rfl)) (cl_skip h m_semi) (fun _ => rfl)
theorem cl_named {P : (St → St) → Prop} (h : Cl P) : P (fun s => (named s).2) := h.seq _ _ (h.seq _ _ (h.seq _ _ (cl_name h) (cl_skip h m_eq) (fun _ => rfl)) (cl_colr h) (fun _ => rfl)) (cl_skip h m_semi) (fun _ => rfl)
theorem cl_shape {P : (St → St) → Prop} (h : Cl P) (hi : P (fun s => (items s).2)) : P (fun s => (shape s).2) := h.seq _ _ (cl_name h) hi (fun _ => rfl)
theorem cl_head {P : (St → St) → Prop} (h : Cl P) : P (fun s => (headGo s).2) := by
  have h1 : P (fun s => (if s.is k_scale = true then whol s.tl else (0, s)).2) := h.ite (fun w => w.2.2 == k_scale) _ _ (h.seq _ _ h.tl' (cl_whol h) (fun _ => rfl)) h.none' (fun s => by
    unfold St.is; cases e : (s.nx.2.2 == k_scale) <;> simp)
  exact h.seq _ _ (h.seq _ _ (h.seq _ _ (h.seq _ _ (cl_skip h k_icon) (cl_whol h) (fun _ => rfl)) (cl_whol h) (fun _ => rfl)) h1 (fun _ => rfl)) (cl_skip h m_semi) (fun _ => rfl)
end PP
end Go.Proofs.YtkhclolhkpkaeaaGreatDoor

/-
  The parser on the first of a text's words: where the whole text is read without a fault, what is told of its beginning is told at its end.
-/
namespace Go.Proofs.YtkhclolhkpkaeaaGreatDoor
namespace PP

/-! What is told is told within the text, and is one of two errors. -/
def Inv (n : Nat) (s : St) : Prop := s.fin = n ∧ (∀ u ∈ s.ws, u.2.1 ≤ n) ∧ ∀ e, s.er = some e → (e.1 = 0 ∨ e.1 = 5) ∧ e.2 ≤ n
theorem Inv.nx {n : Nat} {s : St} (h : Inv n s) : s.nx.2.1 ≤ n := by
  obtain ⟨h1, h2, -⟩ := h
  unfold St.nx
  cases hw : s.ws with
  | nil => simp [h1]
  | cons u t => simp; exact h2 u (by rw [hw]; exact List.mem_cons_self ..)
theorem Inv.fail {n : Nat} {s : St} (h : Inv n s) (c : Nat) (hc : c = 0 ∨ c = 5) : Inv n (s.fail c) := by
  refine ⟨h.1, fun u hu => absurd hu (by simp [St.fail]), fun e he => ?_⟩
  simp only [St.fail, Option.some.injEq] at he
  subst he
  cases hs : s.er with
  | none => exact ⟨hc, h.nx⟩
  | some e => exact h.2.2 e hs
theorem Inv.tl {n : Nat} {s : St} (h : Inv n s) : Inv n s.tl := ⟨h.1, fun u hu => h.2.1 u (List.mem_of_mem_tail hu), h.2.2⟩
theorem Inv.more {n : Nat} {s : St} (h : Inv n s) (m k : Nat) : Inv n (s.more m k) := by
  unfold St.more
  split
  · exact h.fail 5 (.inr rfl)
  · exact h
theorem Inv.whol {n : Nat} {s : St} (h : Inv n s) : Inv n (whol s).2 := by
  unfold PP.whol
  split
  · exact h.tl
  · exact (h.fail 0 (.inl rfl)).tl
theorem inv_cl (n : Nat) : Cl (fun f => ∀ s, Inv n s → Inv n (f s)) where
  none' := fun _ h => h
  comp' := fun _ _ hf hg s h => hg _ (hf s h)
  bind' := fun _ hF s h => hF _ s h
  tl' := fun _ h => h.tl
  fail' := fun _ h => h.fail 0 (.inl rfl)
  turn' := fun s h => by
    unfold turn
    refine Inv.whol ?_
    split
    · split
      · exact h.fail 5 (.inr rfl)
      · exact h
    · exact h
theorem inv_stepsGo (n : Nat) : ∀ (f : Nat) (l : List Step) (s : St), Inv n s → Inv n (stepsGo f l s).2
  | 0, _, _, h => h
  | f + 1, l, s, h => by
    unfold stepsGo
    split
    · exact inv_stepsGo n f _ _ (cl_step (inv_cl n) _ (h.more _ _))
    · exact h
theorem inv_steps (n : Nat) (s : St) (h : Inv n s) : Inv n (steps s).2 := inv_stepsGo n _ _ _ (cl_need (inv_cl n) 6 s h)
theorem inv_itemsGo (n : Nat) : ∀ (f : Nat) (l : List Item) (s : St), Inv n s → Inv n (itemsGo f l s).2
  | 0, _, _, h => h
  | f + 1, l, s, h => by
    unfold itemsGo
    split
    · exact inv_itemsGo n f _ _ (cl_item (inv_cl n) (inv_steps n) _ (h.more _ _))
    · exact h
theorem inv_items (n : Nat) (s : St) (h : Inv n s) : Inv n (items s).2 := cl_skip (inv_cl n) m_shut _ (inv_itemsGo n _ _ _ (cl_skip (inv_cl n) m_open s h))
theorem inv_part (n : Nat) (x : Src) (s : St) (h : Inv n s) : Inv n (part x s).2 := by
  have hc := inv_cl n
  unfold part
  split
  · exact cl_const hc _ ((cl_need hc 1 _ h.tl).more _ _)
  · split
    · exact cl_named hc _ ((cl_need hc 1 _ h.tl).more _ _)
    · split
      · exact cl_shape hc (inv_items n) _ ((cl_need hc 1 _ h.tl).more _ _)
      · split
        · exact cl_cmd hc (inv_items n) _ (h.more _ _)
        · exact h.fail 0 (.inl rfl)
theorem inv_partsGo (n : Nat) : ∀ (f : Nat) (x : Src) (s : St), Inv n s → Inv n (partsGo f x s).2
  | 0, _, _, h => h
  | f + 1, x, s, h => by
    unfold partsGo
    split
    · exact h
    · exact inv_partsGo n f _ _ (inv_part n x s h)
theorem inv_icon (n : Nat) (s : St) (h : Inv n s) : Inv n (icon s).2 := inv_partsGo n _ _ _ (cl_head (inv_cl n) s h)

/-! What was amiss stays. -/
def Bad (s : St) : Prop := s.er ≠ none
theorem Bad.fail (s : St) (c : Nat) : Bad (s.fail c) := by simp [Bad, St.fail]
theorem Bad.more {s : St} (h : Bad s) (m k : Nat) : Bad (s.more m k) := by
  unfold St.more
  split
  · exact Bad.fail _ _
  · exact h
theorem Bad.whol {s : St} (h : Bad s) : Bad (whol s).2 := by
  unfold PP.whol
  split
  · exact h
  · exact Bad.fail s 0
theorem bad_cl : Cl (fun f => ∀ s, Bad s → Bad (f s)) where
  none' := fun _ h => h
  comp' := fun _ _ hf hg s h => hg _ (hf s h)
  bind' := fun _ hF s h => hF _ s h
  tl' := fun _ h => h
  fail' := fun s _ => Bad.fail s 0
  turn' := fun s h => by
    unfold turn
    refine Bad.whol ?_
    split
    · split
      · exact Bad.fail s 5
      · exact h
    · exact h
theorem bad_stepsGo : ∀ (f : Nat) (l : List Step) (s : St), Bad s → Bad (stepsGo f l s).2
  | 0, _, _, h => h
  | f + 1, l, s, h => by
    unfold stepsGo
    split
    · exact bad_stepsGo f _ _ (cl_step bad_cl _ (h.more _ _))
    · exact h
theorem bad_steps (s : St) (h : Bad s) : Bad (steps s).2 := bad_stepsGo _ _ _ (cl_need bad_cl 6 s h)
theorem bad_itemsGo : ∀ (f : Nat) (l : List Item) (s : St), Bad s → Bad (itemsGo f l s).2
  | 0, _, _, h => h
  | f + 1, l, s, h => by
    unfold itemsGo
    split
    · exact bad_itemsGo f _ _ (cl_item bad_cl bad_steps _ (h.more _ _))
    · exact h
theorem bad_items (s : St) (h : Bad s) : Bad (items s).2 := cl_skip bad_cl m_shut _ (bad_itemsGo _ _ _ (cl_skip bad_cl m_open s h))
theorem bad_part (x : Src) (s : St) (h : Bad s) : Bad (part x s).2 := by
  have hc := bad_cl
  unfold part
  split
  · exact cl_const hc _ ((cl_need hc 1 s.tl h).more _ _)
  · split
    · exact cl_named hc _ ((cl_need hc 1 s.tl h).more _ _)
    · split
      · exact cl_shape hc bad_items _ ((cl_need hc 1 s.tl h).more _ _)
      · split
        · exact cl_cmd hc bad_items _ (h.more _ _)
        · exact Bad.fail s 0
theorem bad_partsGo : ∀ (f : Nat) (x : Src) (s : St), Bad s → Bad (partsGo f x s).2
  | 0, _, _, h => h
  | f + 1, x, s, h => by
    unfold partsGo
    split
    · exact h
    · exact bad_partsGo f _ _ (bad_part x s h)

/-! The words are at their end: what is amiss from there on is told there. -/
def Out (k : Nat) (s : St) : Prop := s.ws = [] ∧ s.fin = k ∧ (s.er = none ∨ s.er = some (0, k))
theorem Out.nx {k : Nat} {s : St} (h : Out k s) : s.nx = (0, k, []) := by unfold St.nx; rw [h.1, h.2.1]; rfl
theorem Out.tl {k : Nat} {s : St} (h : Out k s) : Out k s.tl := ⟨by simp [St.tl, h.1], h.2.1, h.2.2⟩
theorem Out.fail {k : Nat} {s : St} (h : Out k s) : Out k (s.fail 0) ∧ (s.fail 0).er = some (0, k) := by
  have e : (s.fail 0).er = some (0, k) := by
    simp only [St.fail, h.nx]
    rcases h.2.2 with e | e <;> rw [e] <;> rfl
  exact ⟨⟨rfl, h.2.1, .inr e⟩, e⟩
theorem Out.failed {k c : Nat} {s : St} (h : Out k s) (he : s.er = some (0, k)) : Out k (s.fail c) := by
  refine ⟨rfl, h.2.1, .inr ?_⟩
  simp only [St.fail, he]
  rfl
theorem Out.more {k : Nat} {s : St} (h : Out k s) (he : s.er = some (0, k)) (m n : Nat) : Out k (s.more m n) := by
  unfold St.more
  split
  · exact h.failed he
  · exact h
theorem Out.need {k : Nat} {s : St} (h : Out k s) (j : Nat) (hj : j ≠ 0) : Out k (s.need j) ∧ (s.need j).er = some (0, k) := by
  unfold St.need
  rw [h.nx, if_neg (by simpa using hj.symm)]
  exact h.fail
theorem Out.whol {k : Nat} {s : St} (h : Out k s) : Out k (whol s).2 := by
  unfold PP.whol
  split
  · exact h.tl
  · exact h.fail.1.tl
theorem out_cl (k : Nat) : Cl (fun f => ∀ s, Out k s → Out k (f s)) where
  none' := fun _ h => h
  comp' := fun _ _ hf hg s h => hg _ (hf s h)
  bind' := fun _ hF s h => hF _ s h
  tl' := fun _ h => h.tl
  fail' := fun _ h => h.fail.1
  turn' := fun s h => by
    show Out k (turn s).2
    unfold turn
    rw [h.nx]
    exact Out.whol h
theorem out_stepsGo (k : Nat) (f : Nat) (l : List Step) (s : St) (h : Out k s) : Out k (stepsGo f l s).2 := by
  cases f with
  | zero => exact h
  | succ f => unfold stepsGo; rw [h.nx, if_neg (by simp)]; exact h
theorem out_steps (k : Nat) (s : St) (h : Out k s) : Out k (steps s).2 := out_stepsGo k _ _ _ (cl_need (out_cl k) 6 s h)
theorem Out.is {k : Nat} {s : St} (h : Out k s) (t : Tx) (ht : t ≠ []) : s.is t = false := by
  unfold St.is
  rw [h.nx]
  simpa using ht.symm
theorem out_itemsGo (k : Nat) (f : Nat) (l : List Item) (s : St) (h : Out k s) : Out k (itemsGo f l s).2 := by
  cases f with
  | zero => exact h
  | succ f => unfold itemsGo; rw [h.is k_path (by decide), h.is k_use (by decide)]; exact h
theorem out_items (k : Nat) (s : St) (h : Out k s) : Out k (items s).2 := cl_skip (out_cl k) m_shut _ (out_itemsGo k _ _ _ (cl_skip (out_cl k) m_open s h))
theorem out_partsGo (k : Nat) (f : Nat) (x : Src) (s : St) (h : Out k s) : Out k (partsGo f x s).2 := by
  cases f with
  | zero => exact h
  | succ f => unfold partsGo; rw [h.1]; exact h
theorem out_icon (k : Nat) (s : St) (h : Out k s) : Out k (icon s).2 := out_partsGo k _ _ _ (cl_head (out_cl k) s h)

/-! Side by side. -/
def Syn (w2 : List WP.W) (k : Nat) (a b : St) : Prop := a.er = none ∧ b.er = none ∧ b.fin = k ∧ b.ws ≠ [] ∧ a.ws = b.ws ++ w2
def Sim (w2 : List WP.W) (k : Nat) (a b : St) : Prop := Bad a ∨ Out k b ∨ Syn w2 k a b
theorem Syn.nx {w2 : List WP.W} {k : Nat} {a b : St} (h : Syn w2 k a b) : a.nx = b.nx := by
  obtain ⟨-, -, -, h4, h5⟩ := h
  unfold St.nx
  rw [h5]
  cases hb : b.ws with
  | nil => exact absurd hb h4
  | cons u t => rfl
theorem Syn.tl {w2 : List WP.W} {k : Nat} {a b : St} (h : Syn w2 k a b) : Sim w2 k a.tl b.tl := by
  obtain ⟨h1, h2, h3, h4, h5⟩ := h
  cases hb : b.ws with
  | nil => exact absurd hb h4
  | cons u t =>
    cases t with
    | nil => exact .inr (.inl ⟨by simp [St.tl, hb], h3, .inl h2⟩)
    | cons v t => exact .inr (.inr ⟨h1, h2, h3, by simp [St.tl, hb], by simp [St.tl, h5, hb]⟩)
def Good (w2 : List WP.W) (k : Nat) (f : St → St) : Prop := (∀ s, Bad s → Bad (f s)) ∧ (∀ s, Out k s → Out k (f s)) ∧ ∀ a b, Syn w2 k a b → Sim w2 k (f a) (f b)
theorem Good.sim {w2 : List WP.W} {k : Nat} {f : St → St} (h : Good w2 k f) {a b : St} (hs : Sim w2 k a b) : Sim w2 k (f a) (f b) := by
  rcases hs with hs | hs | hs
  · exact .inl (h.1 _ hs)
  · exact .inr (.inl (h.2.1 _ hs))
  · exact h.2.2 _ _ hs
theorem Syn.sim_whol {w2 : List WP.W} {k : Nat} {a b : St} (h : Syn w2 k a b) : Sim w2 k (whol a).2 (whol b).2 := by
  unfold whol
  rw [h.nx]
  split
  · exact h.tl
  · exact .inl (Bad.fail a 0)
theorem good_cl (w2 : List WP.W) (k : Nat) : Cl (Good w2 k) where
  none' := ⟨fun _ h => h, fun _ h => h, fun _ _ h => .inr (.inr h)⟩
  comp' := fun _ _ hf hg => ⟨fun s h => hg.1 _ (hf.1 s h), fun s h => hg.2.1 _ (hf.2.1 s h), fun a b h => hg.sim (hf.2.2 a b h)⟩
  bind' := fun _ hF => ⟨fun s h => (hF _).1 s h, fun s h => (hF _).2.1 s h, fun a b h => by simp only [h.nx]; exact (hF _).2.2 a b h⟩
  tl' := ⟨bad_cl.tl', (out_cl k).tl', fun _ _ h => h.tl⟩
  fail' := ⟨bad_cl.fail', (out_cl k).fail', fun a _ _ => .inl (Bad.fail a 0)⟩
  turn' := ⟨bad_cl.turn', (out_cl k).turn', fun a b h => by
    show Sim w2 k (turn a).2 (turn b).2
    unfold turn
    rw [h.nx]
    split
    · split
      · exact .inl (Bad.whol (Bad.fail a 5))
      · exact h.sim_whol
    · exact h.sim_whol⟩
theorem Syn.more {w2 : List WP.W} {k : Nat} {a b : St} (_h : Syn w2 k a b) (m n : Nat) : Bad (a.more m n) ∨ (a.more m n = a ∧ b.more m n = b) := by
  unfold St.more
  by_cases e : n = m
  · exact .inl (by rw [if_pos e]; exact Bad.fail a 5)
  · exact .inr ⟨if_neg e, if_neg e⟩
theorem sim_stepsGo (w2 : List WP.W) (k : Nat) : ∀ (f g : Nat) (l m : List Step) (a b : St), a.n < f → b.n < g → l.length = m.length → Syn w2 k a b → Sim w2 k (stepsGo f l a).2 (stepsGo g m b).2
  | 0, _, _, _, _, _, hf, _, _, _ => absurd hf (by omega)
  | _ + 1, 0, _, _, _, _, _, hg, _, _ => absurd hg (by omega)
  | f + 1, g + 1, l, m, a, b, hf, hg, hl, h => by
    unfold stepsGo
    rw [h.nx, hl]
    by_cases e : b.nx.1 = 6
    · rw [if_pos e, if_pos e]
      rcases h.more 1000 m.length with hb | ⟨e1, e2⟩
      · exact .inl (bad_stepsGo _ _ _ (cl_step bad_cl _ hb))
      · rw [e1, e2]
        have k1 := step_le a
        have k2 := step_le b
        have hbn : 0 < b.n := pos_of_kind e (by decide)
        have han : 0 < a.n := pos_of_kind (h.nx ▸ e) (by decide)
        rcases (cl_step (good_cl w2 k)).2.2 a b h with hs | hs | hs
        · exact .inl (bad_stepsGo _ _ _ hs)
        · exact .inr (.inl (out_stepsGo k _ _ _ hs))
        · exact sim_stepsGo w2 k f g _ _ _ _ (by omega) (by omega) (by simp [hl]) hs
    · rw [if_neg e, if_neg e]
      exact .inr (.inr h)
theorem good_steps (w2 : List WP.W) (k : Nat) : Good w2 k (fun s => (steps s).2) := by
  refine ⟨bad_steps, out_steps k, fun a b h => ?_⟩
  rcases (cl_need (good_cl w2 k) 6).2.2 a b h with hs | hs | hs
  · exact .inl (bad_stepsGo _ _ _ hs)
  · exact .inr (.inl (out_stepsGo k _ _ _ hs))
  · exact sim_stepsGo w2 k _ _ _ _ _ _ (Nat.lt_succ_self _) (Nat.lt_succ_self _) rfl hs
theorem sim_itemsGo (w2 : List WP.W) (k : Nat) : ∀ (f g : Nat) (l m : List Item) (a b : St), a.n < f → b.n < g → l.length = m.length → Syn w2 k a b → Sim w2 k (itemsGo f l a).2 (itemsGo g m b).2
  | 0, _, _, _, _, _, hf, _, _, _ => absurd hf (by omega)
  | _ + 1, 0, _, _, _, _, _, hg, _, _ => absurd hg (by omega)
  | f + 1, g + 1, l, m, a, b, hf, hg, hl, h => by
    unfold itemsGo
    have hp : a.is k_path = b.is k_path := by unfold St.is; rw [h.nx]
    have hu : a.is k_use = b.is k_use := by unfold St.is; rw [h.nx]
    rw [hp, hu, hl]
    by_cases e : (b.is k_path || b.is k_use) = true
    · rw [if_pos e, if_pos e]
      rcases h.more 400 m.length with hb | ⟨e1, e2⟩
      · exact .inl (bad_itemsGo _ _ _ (cl_item bad_cl bad_steps _ hb))
      · rw [e1, e2]
        have k1 := item_le a
        have k2 := item_le b
        have hbn : 0 < b.n := by
          rcases (show b.is k_path = true ∨ b.is k_use = true by simpa using e) with e | e
          · exact pos_of_is e (by decide)
          · exact pos_of_is e (by decide)
        have han : 0 < a.n := by
          rcases (show b.is k_path = true ∨ b.is k_use = true by simpa using e) with e | e
          · exact pos_of_is (hp.trans e) (by decide)
          · exact pos_of_is (hu.trans e) (by decide)
        rcases (cl_item (good_cl w2 k) (good_steps w2 k)).2.2 a b h with hs | hs | hs
        · exact .inl (bad_itemsGo _ _ _ hs)
        · exact .inr (.inl (out_itemsGo k _ _ _ hs))
        · exact sim_itemsGo w2 k f g _ _ _ _ (by omega) (by omega) (by simp [hl]) hs
    · rw [if_neg e, if_neg e]
      exact .inr (.inr h)
theorem good_items (w2 : List WP.W) (k : Nat) : Good w2 k (fun s => (items s).2) := by
  refine ⟨bad_items, out_items k, fun a b h => ?_⟩
  refine (cl_skip (good_cl w2 k) m_shut).sim (a := (itemsGo ((a.skip m_open).ws.length + 1) [] (a.skip m_open)).2) (b := (itemsGo ((b.skip m_open).ws.length + 1) [] (b.skip m_open)).2) ?_
  rcases (cl_skip (good_cl w2 k) m_open).2.2 a b h with hs | hs | hs
  · exact .inl (bad_itemsGo _ _ _ hs)
  · exact .inr (.inl (out_itemsGo k _ _ _ hs))
  · exact sim_itemsGo w2 k _ _ _ _ _ _ (Nat.lt_succ_self _) (Nat.lt_succ_self _) rfl hs

def Lens (x y : Src) : Prop := x.consts.length = y.consts.length ∧ x.colors.length = y.colors.length ∧ x.shapes.length = y.shapes.length ∧ x.cmds.length = y.cmds.length
/-- A word on, a name wanted, and whether there is place for one more. -/
theorem sim_named {w2 : List WP.W} {k : Nat} {a b : St} (h : Syn w2 k a b) (m n : Nat) : Sim w2 k ((a.tl.need 1).more m n) ((b.tl.need 1).more m n) := by
  rcases h.tl with hs | hs | hs
  · exact .inl ((cl_need bad_cl 1 _ hs).more _ _)
  · exact .inr (.inl ((hs.need 1 (by decide)).1.more (hs.need 1 (by decide)).2 _ _))
  · rcases (cl_need (good_cl w2 k) 1).2.2 _ _ hs with ht | ht | ht
    · exact .inl (ht.more _ _)
    · have : (b.tl.need 1) = b.tl ∨ b.tl.need 1 = b.tl.fail 0 := by unfold St.need; split <;> simp
      rcases this with e | e
      · exact absurd (by rw [← e]; exact ht.1) hs.2.2.2.1
      · refine .inl (Bad.more ?_ _ _)
        unfold St.need
        rw [hs.nx, if_neg (fun e1 => ?_)]
        · exact Bad.fail _ _
        · unfold St.need at e
          rw [if_pos e1] at e
          exact hs.2.2.2.1 (by rw [e]; rfl)
    · rcases ht.more m n with hb | ⟨e1, e2⟩
      · exact .inl hb
      · rw [e1, e2]; exact .inr (.inr ht)
theorem sim_part {w2 : List WP.W} {k : Nat} {a b : St} (x y : Src) (hx : Lens x y) (h : Syn w2 k a b) : Sim w2 k (part x a).2 (part y b).2 ∧ Lens (part x a).1 (part y b).1 := by
  have hc := good_cl w2 k
  have is : ∀ t, a.is t = b.is t := fun t => by unfold St.is; rw [h.nx]
  obtain ⟨x1, x2, x3, x4⟩ := hx
  unfold part
  rw [is k_const, is k_color, is k_shape, is k_fill, is k_line, x1, x2, x3, x4]
  split
  · have h1 : Sim w2 k (const ((a.tl.need 1).more 64 y.consts.length)).2 (const ((b.tl.need 1).more 64 y.consts.length)).2 := Good.sim (f := fun s => (const s).2) (cl_const hc) (sim_named h 64 y.consts.length)
    refine ⟨h1, ?_⟩
    dsimp only
    exact ⟨by simp [x1], x2, x3, x4⟩
  · split
    · have h1 : Sim w2 k (named ((a.tl.need 1).more 64 y.colors.length)).2 (named ((b.tl.need 1).more 64 y.colors.length)).2 := Good.sim (f := fun s => (named s).2) (cl_named hc) (sim_named h 64 y.colors.length)
      refine ⟨h1, ?_⟩
      dsimp only
      exact ⟨x1, by simp [x2], x3, x4⟩
    · split
      · have h1 : Sim w2 k (shape ((a.tl.need 1).more 64 y.shapes.length)).2 (shape ((b.tl.need 1).more 64 y.shapes.length)).2 := Good.sim (f := fun s => (shape s).2) (cl_shape hc (good_items w2 k)) (sim_named h 64 y.shapes.length)
        refine ⟨h1, ?_⟩
        dsimp only
        exact ⟨x1, x2, by simp [x3], x4⟩
      · split
        · refine ⟨?_, x1, x2, x3, by simp [x4]⟩
          rcases h.more 200 y.cmds.length with hb | ⟨e1, e2⟩
          · exact .inl (cl_cmd bad_cl bad_items _ hb)
          · simp only [e1, e2]; exact (cl_cmd hc (good_items w2 k)).2.2 _ _ h
        · exact ⟨.inl (Bad.fail a 0), x1, x2, x3, x4⟩
theorem sim_partsGo (w2 : List WP.W) (k : Nat) : ∀ (f g : Nat) (x y : Src) (a b : St), a.n < f → b.n < g → Lens x y → Syn w2 k a b → Sim w2 k (partsGo f x a).2 (partsGo g y b).2
  | 0, _, _, _, _, _, hf, _, _, _ => absurd hf (by omega)
  | _ + 1, 0, _, _, _, _, _, hg, _, _ => absurd hg (by omega)
  | f + 1, g + 1, x, y, a, b, hf, hg, hx, h => by
    have hb : b.ws.length ≠ 0 := fun e => h.2.2.2.1 (List.length_eq_zero_iff.1 e)
    have ha : a.ws.length ≠ 0 := by rw [h.2.2.2.2, List.length_append]; omega
    unfold partsGo
    rw [if_neg ha, if_neg hb]
    obtain ⟨hs, hl⟩ := sim_part x y hx h
    have k1 := part_le x a
    have k2 := part_le y b
    have ha' : 0 < a.n := Nat.pos_of_ne_zero ha
    have hb' : 0 < b.n := Nat.pos_of_ne_zero hb
    rcases hs with hs | hs | hs
    · exact .inl (bad_partsGo _ _ _ hs)
    · exact .inr (.inl (out_partsGo k _ _ _ hs))
    · exact sim_partsGo w2 k f g _ _ _ _ (by omega) (by omega) hl hs
theorem sim_icon {w2 : List WP.W} {k : Nat} {a b : St} (h : Syn w2 k a b) : Sim w2 k (icon a).2 (icon b).2 := by
  unfold icon
  rcases (cl_head (good_cl w2 k)).2.2 a b h with hs | hs | hs
  · exact .inl (bad_partsGo _ _ _ hs)
  · exact .inr (.inl (out_partsGo k _ _ _ hs))
  · exact sim_partsGo w2 k _ _ _ _ _ _ (Nat.lt_succ_self _) (Nat.lt_succ_self _) ⟨rfl, rfl, rfl, rfl⟩ hs

/-- Where the whole is read, a beginning of its words is read too, or told at its end. -/
theorem icon_cut (n k : Nat) (w1 w2 : List WP.W) (h : (icon (start n (w1 ++ w2))).2.er = none) : (icon (start k w1)).2.er = none ∨ (icon (start k w1)).2.er = some (0, k) := by
  by_cases e : w1 = []
  · subst e
    exact (out_icon k (start k []) ⟨rfl, rfl, .inl rfl⟩).2.2
  · rcases sim_icon (w2 := w2) (k := k) (a := start n (w1 ++ w2)) (b := start k w1) ⟨rfl, rfl, rfl, e, rfl⟩ with hs | hs | hs
    · exact absurd h hs
    · exact hs.2.2
    · exact .inl hs.2.1

end PP
end Go.Proofs.YtkhclolhkpkaeaaGreatDoor

/-
  A text that is cut at a blank: its words are the first of the whole text's.
-/
namespace Go.Proofs.YtkhclolhkpkaeaaGreatDoor
namespace WP

/-! The words from a place on (r: within a remark). -/
def sp (r : Bool) (f p : Nat) (d : List UInt8) : Except Nat (List W) := go f (p + gaps r d) (d.drop (gaps r d))
theorem sp_split (l : List UInt8) : split l = sp false (l.length + 1) 0 l := by unfold split sp; rw [Nat.zero_add]; rfl
theorem sp_on (r q : Bool) (f p : Nat) (a : UInt8) (t : List UInt8) (h : gaps r (a :: t) = gaps q t + 1) : sp r f p (a :: t) = sp q f (p + 1) t := by
  unfold sp
  rw [h, List.drop_succ_cons, show p + (gaps q t + 1) = p + 1 + gaps q t by omega]
theorem sp_zero (f p : Nat) (d : List UInt8) (h : gaps false d = 0) : sp false f p d = go f p d := by unfold sp; rw [h]; rfl
theorem sp_word (f p : Nat) (d : List UInt8) (h : gaps false d = 0) (hd : d ≠ []) (hn : (first d).2 ≠ 0) : sp false (f + 1) p d = pre [((first d).1, p, d.take (first d).2)] (sp false f (p + (first d).2) (d.drop (first d).2)) := by
  rw [sp_zero _ _ _ h]
  conv => lhs; unfold go
  rw [if_neg hd, if_neg hn]
  unfold sp
  rw [List.drop_drop, Nat.add_assoc]
  rfl
theorem sp_none (f p : Nat) (d : List UInt8) (h : gaps false d = 0) (hd : d ≠ []) (hn : (first d).2 = 0) : sp false (f + 1) p d = .error p := by
  rw [sp_zero _ _ _ h]
  unfold go
  rw [if_neg hd, if_pos hn]

/-- What ends a piece: a byte that is of no class. -/
def Ends (c : UInt8) : Prop := c = 32 ∨ c = 10
theorem Ends.no (c : UInt8) (h : Ends c) : nsign c = false ∧ digit c = false ∧ cdig c = false ∧ sign c = false ∧ poh c = false ∧ small c = false ∧ blank c = true ∧ mark c = false ∧ step c = false := by
  rcases h with rfl | rfl <;> decide

theorem count_take (p : UInt8 → Bool) : ∀ (l : List UInt8) (j : Nat) (c : UInt8), l[j]? = some c → p c = false → count p (l.take j) = count p l ∧ count p l ≤ j
  | [], j, c, h, _ => by simp at h
  | a :: l, 0, c, h, hp => by
    simp at h
    subst h
    simp [count, hp]
  | a :: l, j + 1, c, h, hp => by
    have ih := count_take p l j c (by simpa using h) hp
    simp only [List.take_succ_cons, count]
    split
    · exact ⟨by rw [ih.1], by omega⟩
    · exact ⟨rfl, by omega⟩
theorem begins_take (p : UInt8 → Bool) (l : List UInt8) (j m : Nat) (c : UInt8) (h : l[j]? = some c) (hp : p c = false) (hm : m ≤ j) : begins p ((l.take j).drop m) = begins p (l.drop m) := by
  have hj : j < l.length := (List.getElem?_eq_some_iff.1 h).1
  rcases Nat.lt_or_ge m j with hlt | hge
  · have h1 : (l.take j).drop m = l[m] :: (l.take j).drop (m + 1) := by
      rw [List.drop_eq_getElem_cons (by rw [List.length_take]; omega)]
      simp
    have h2 : l.drop m = l[m] :: l.drop (m + 1) := List.drop_eq_getElem_cons (by omega)
    rw [h1, h2]
    rfl
  · have e : m = j := by omega
    subst e
    have h2 : l.drop m = l[m] :: l.drop (m + 1) := List.drop_eq_getElem_cons hj
    have hc : l[m] = c := (List.getElem?_eq_some_iff.1 h).2
    rw [h2, List.drop_eq_nil_of_le (by rw [List.length_take]; omega)]
    simp [begins, hc, hp]
theorem glued_take (l : List UInt8) (j m : Nat) (c : UInt8) (h : l[j]? = some c) (hc : Ends c) (hm : m ≤ j) : glued ((l.take j).drop m) = glued (l.drop m) := by
  unfold glued
  rw [begins_take sign l j m c h (Ends.no c hc).2.2.2.1 hm, begins_take poh l j m c h (Ends.no c hc).2.2.2.2.1 hm]
theorem drop_get (l : List UInt8) (j m : Nat) (c : UInt8) (h : l[j]? = some c) (hm : m ≤ j) : (l.drop m)[j - m]? = some c := by
  rw [List.getElem?_drop, show m + (j - m) = j by omega]
  exact h
theorem digits_take (l : List UInt8) (j : Nat) (c : UInt8) (h : l[j]? = some c) (hc : Ends c) : digits (l.take j) = digits l ∧ digits l ≤ j := by
  obtain ⟨h1, h2⟩ := count_take digit l j c h (Ends.no c hc).2.1
  unfold digits
  rw [h1]
  split
  · exact ⟨rfl, Nat.zero_le _⟩
  · exact ⟨rfl, h2⟩
theorem pre_take (l : List UInt8) (j : Nat) (c a : UInt8) (h : l[j]? = some c) (hc : Ends c) (ha : ¬ Ends a) : Lib.hasPrefix (l.take j) [a] = Lib.hasPrefix l [a] ∧ (Lib.hasPrefix l [a] = true → 1 ≤ j) := by
  cases j with
  | zero =>
    cases l with
    | nil => simp at h
    | cons b t =>
      simp at h
      subst h
      have : ¬ a = b := fun e => ha (e ▸ hc)
      simp [Lib.hasPrefix, List.isPrefixOf, this]
  | succ j =>
    cases l with
    | nil => simp at h
    | cons b t => simp [Lib.hasPrefix, List.isPrefixOf]
theorem trim_take (l : List UInt8) (j : Nat) (c a : UInt8) (h : l[j]? = some c) (hc : Ends c) (ha : ¬ Ends a) :
    ∃ i, i ≤ j ∧ i ≤ 1 ∧ Lib.trimPrefix (l.take j) [a] = (l.drop i).take (j - i) ∧ Lib.trimPrefix l [a] = l.drop i := by
  obtain ⟨h1, h2⟩ := pre_take l j c a h hc ha
  unfold Lib.trimPrefix
  rw [h1]
  by_cases e : Lib.hasPrefix l [a] = true
  · rw [if_pos e, if_pos e]
    exact ⟨1, h2 e, Nat.le_refl _, by simp [List.drop_take], rfl⟩
  · rw [if_neg e, if_neg e]
    exact ⟨0, Nat.zero_le _, Nat.zero_le _, by simp, by simp⟩
theorem numRest_take (l : List UInt8) (j : Nat) (c : UInt8) (h : l[j]? = some c) (hc : Ends c) :
    (numRest l = none ∧ numRest (l.take j) = none) ∨ ∃ i, i ≤ j ∧ numRest l = some (l.drop i) ∧ numRest (l.take j) = some ((l.drop i).take (j - i)) := by
  have n45 : ¬ Ends 45 := by unfold Ends; decide
  have n46 : ¬ Ends 46 := by unfold Ends; decide
  obtain ⟨i, hi, -, e1, e2⟩ := trim_take l j c 45 h hc n45
  have g1 := drop_get l j i c h hi
  obtain ⟨d1, d2⟩ := digits_take (l.drop i) (j - i) c g1 hc
  unfold numRest
  simp only [e1, e2, d1]
  by_cases z : digits (l.drop i) = 0
  · exact .inl ⟨by rw [if_pos z], by rw [if_pos z]⟩
  · rw [if_neg z, if_neg z]
    obtain ⟨k, hk⟩ : ∃ k, i + digits (l.drop i) = k := ⟨_, rfl⟩
    have hkj : k ≤ j := by omega
    have r1 : (l.drop i).drop (digits (l.drop i)) = l.drop k := by rw [List.drop_drop, hk]
    have r2 : ((l.drop i).take (j - i)).drop (digits (l.drop i)) = (l.drop k).take (j - k) := by
      rw [List.drop_take, r1, show j - i - digits (l.drop i) = j - k by omega]
    rw [r1, r2]
    have g2 := drop_get l j k c h hkj
    obtain ⟨p1, -⟩ := pre_take (l.drop k) (j - k) c 46 g2 hc n46
    rw [p1]
    by_cases q : Lib.hasPrefix (l.drop k) [46] = true
    · rw [if_pos q, if_pos q]
      obtain ⟨i2, hi2, -, e3, e4⟩ := trim_take (l.drop k) (j - k) c 46 g2 hc n46
      rw [e3, e4]
      obtain ⟨k2, hk2⟩ : ∃ k2, k + i2 = k2 := ⟨_, rfl⟩
      have hk2j : k2 ≤ j := by omega
      have r3 : (l.drop k).drop i2 = l.drop k2 := by rw [List.drop_drop, hk2]
      rw [r3, show j - k - i2 = j - k2 by omega]
      have g3 := drop_get l j k2 c h hk2j
      obtain ⟨d3, d4⟩ := digits_take (l.drop k2) (j - k2) c g3 hc
      rw [d3]
      by_cases y : digits (l.drop k2) = 0
      · exact .inl ⟨by rw [if_pos y], by rw [if_pos y]⟩
      · rw [if_neg y, if_neg y]
        obtain ⟨k3, hk3⟩ : ∃ k3, k2 + digits (l.drop k2) = k3 := ⟨_, rfl⟩
        have hk3j : k3 ≤ j := by omega
        have r4 : (l.drop k2).drop (digits (l.drop k2)) = l.drop k3 := by rw [List.drop_drop, hk3]
        have r5 : ((l.drop k2).take (j - k2)).drop (digits (l.drop k2)) = (l.drop k3).take (j - k3) := by
          rw [List.drop_take, r4, show j - k2 - digits (l.drop k2) = j - k3 by omega]
        have gl : glued ((l.drop k3).take (j - k3)) = glued (l.drop k3) := by
          have := glued_take (l.drop k3) (j - k3) 0 c (drop_get l j k3 c h hk3j) hc (Nat.zero_le _)
          simpa using this
        rw [r4, r5, gl]
        by_cases x : glued (l.drop k3) = true
        · exact .inl ⟨by rw [if_pos x], by rw [if_pos x]⟩
        · rw [if_neg x, if_neg x]
          exact .inr ⟨k3, hk3j, rfl, rfl⟩
    · rw [if_neg q, if_neg q]
      have gl : glued ((l.drop k).take (j - k)) = glued (l.drop k) := by
        have := glued_take (l.drop k) (j - k) 0 c g2 hc (Nat.zero_le _)
        simpa using this
      rw [gl]
      by_cases x : glued (l.drop k) = true
      · exact .inl ⟨by rw [if_pos x], by rw [if_pos x]⟩
      · rw [if_neg x, if_neg x]
        exact .inr ⟨k, hkj, rfl, rfl⟩
theorem numSize_take (l : List UInt8) (j : Nat) (c : UInt8) (h : l[j]? = some c) (hc : Ends c) : numSize (l.take j) = numSize l ∧ numSize l ≤ j := by
  have hj : j < l.length := (List.getElem?_eq_some_iff.1 h).1
  unfold numSize
  rcases numRest_take l j c h hc with ⟨e1, e2⟩ | ⟨i, hi, e1, e2⟩
  · rw [e1, e2]; exact ⟨rfl, Nat.zero_le _⟩
  · rw [e1, e2]
    simp only [List.length_take, List.length_drop]
    omega
theorem nameSize_take (l : List UInt8) (j : Nat) (c : UInt8) (h : l[j]? = some c) (hc : Ends c) : nameSize (l.take j) = nameSize l ∧ nameSize l ≤ j := by
  obtain ⟨h1, h2⟩ := count_take nsign l j c h (Ends.no c hc).1
  unfold nameSize
  rw [h1]
  split
  · exact ⟨rfl, Nat.zero_le _⟩
  · exact ⟨rfl, h2⟩
theorem colSize_take (l : List UInt8) (j : Nat) (c : UInt8) (h : l[j]? = some c) (hc : Ends c) (hj : 1 ≤ j) : colSize (l.take j) = colSize l ∧ colSize l ≤ j := by
  obtain ⟨h1, h2⟩ := count_take cdig (l.drop 1) (j - 1) c (drop_get l j 1 c h hj) (Ends.no c hc).2.2.1
  have e : (l.take j).drop 1 = (l.drop 1).take (j - 1) := by rw [List.drop_take]
  unfold colSize
  rw [e, h1]
  have g := glued_take l j (1 + count cdig (l.drop 1)) c h hc (by omega)
  simp only [g]
  refine ⟨trivial, ?_⟩
  split
  · exact Nat.zero_le _
  · omega
/-- The word at the front is the same, where the text is cut at a blank behind it. -/
theorem first_take (l : List UInt8) (j : Nat) (c : UInt8) (h : l[j]? = some c) (hc : Ends c) (hj : 1 ≤ j) : first (l.take j) = first l ∧ (first l).2 ≤ j := by
  cases l with
  | nil => simp at h
  | cons a t =>
    obtain ⟨i, rfl⟩ : ∃ i, j = i + 1 := ⟨j - 1, by omega⟩
    have n1 := nameSize_take (a :: t) (i + 1) c h hc
    have n2 := numSize_take (a :: t) (i + 1) c h hc
    have n3 := colSize_take (a :: t) (i + 1) c h hc hj
    have hb : begins sign (t.take i) = begins sign t := by
      have := begins_take sign (a :: t) (i + 1) 1 c h (Ends.no c hc).2.2.2.1 (by omega)
      simpa using this
    have hr : ((a :: t).take (i + 1)).take (nameSize (a :: t)) = (a :: t).take (nameSize (a :: t)) := by
      rw [List.take_take, Nat.min_eq_left n1.2]
    rw [List.take_succ_cons] at n1 n2 n3 hr ⊢
    unfold first
    simp only [n1.1, n2.1, n3.1, hb, hr]
    refine ⟨trivial, ?_⟩
    split
    · split <;> exact n1.2
    · split
      · exact n2.2
      · split
        · exact n3.2
        · split
          · show 1 ≤ i + 1; omega
          · split
            · show 1 ≤ i + 1; omega
            · exact Nat.zero_le _
theorem pre_ok {a : List W} {r : Except Nat (List W)} {ws : List W} (h : pre a r = .ok ws) : ∃ v, r = .ok v ∧ ws = a ++ v := by
  cases r with
  | error e => simp [pre] at h
  | ok v => simp [pre] at h; exact ⟨v, rfl, h.symm⟩
theorem sp_take : ∀ (n : Nat) (d : List UInt8) (r : Bool) (f g p j : Nat) (c : UInt8) (ws : List W), d.length ≤ n → sp r f p d = .ok ws → d[j]? = some c → Ends c → d.length < f → j < g → ∃ w1 w2, ws = w1 ++ w2 ∧ sp r g p (d.take j) = .ok w1
  | n, [], _, _, _, _, j, c, _, _, _, h, _, _, _ => by simp at h
  | 0, a :: t, _, _, _, _, _, _, _, hn, _, _, _, _, _ => by simp at hn
  | n + 1, a :: t, r, f, g, p, 0, c, ws, _, _, _, _, _, hg => by
    obtain ⟨g', rfl⟩ : ∃ g', g = g' + 1 := ⟨g - 1, by omega⟩
    refine ⟨[], ws, rfl, ?_⟩
    cases r <;> rfl
  | n + 1, a :: t, r, f, g, p, i + 1, c, ws, hn, h, hj, hc, hf, hg => by
    have hjt : t[i]? = some c := by simpa using hj
    have hnt : t.length ≤ n := by simpa using hn
    have hft : t.length < f := by simp at hf; omega
    rw [List.take_succ_cons]
    have on : ∀ q, gaps r (a :: t) = gaps q t + 1 → gaps r (a :: t.take i) = gaps q (t.take i) + 1 → ∃ w1 w2, ws = w1 ++ w2 ∧ sp r g p (a :: t.take i) = .ok w1 := fun q e1 e2 => by
      rw [sp_on r q f p a t e1] at h
      obtain ⟨w1, w2, e3, e4⟩ := sp_take n t q f g (p + 1) i c ws hnt h hjt hc hft (by omega)
      exact ⟨w1, w2, e3, by rw [sp_on r q g p a _ e2]; exact e4⟩
    cases r with
    | true =>
      by_cases e : a.toNat = 10
      · exact on false (by simp [gaps, e]) (by simp [gaps, e])
      · exact on true (by simp [gaps, e]) (by simp [gaps, e])
    | false =>
      by_cases b : blank a = true
      · exact on false (by simp [gaps, b]) (by simp [gaps, b])
      · have hb : begins (fun d => decide (d.toNat = 47)) (t.take i) = begins (fun d => decide (d.toNat = 47)) t := by
          have := begins_take (fun d => decide (d.toNat = 47)) t i 0 c hjt (by rcases hc with rfl | rfl <;> decide) (Nat.zero_le _)
          simpa using this
        by_cases m : a.toNat = 47 ∧ begins (fun d => decide (d.toNat = 47)) t = true
        · exact on true (by simp [gaps, b, m.1, m.2]) (by simp [gaps, b, m.1, m.2, hb])
        · have z1 : gaps false (a :: t) = 0 := by
            simp only [gaps, b]
            simp [m]
          have z2 : gaps false (a :: t.take i) = 0 := by
            simp only [gaps, b, hb]
            simp [m]
          obtain ⟨f', rfl⟩ : ∃ f', f = f' + 1 := ⟨f - 1, by omega⟩
          obtain ⟨g', rfl⟩ : ∃ g', g = g' + 1 := ⟨g - 1, by omega⟩
          have hft' := first_take (a :: t) (i + 1) c hj hc (by omega)
          rw [List.take_succ_cons] at hft'
          by_cases hz : (first (a :: t)).2 = 0
          · rw [sp_none f' p _ z1 (by simp) hz] at h
            cases h
          · rw [sp_word f' p _ z1 (by simp) hz] at h
            obtain ⟨v, hv, rfl⟩ := pre_ok h
            obtain ⟨N, hN⟩ : ∃ N, (first (a :: t)).2 = N := ⟨_, rfl⟩
            rw [hN] at hv hz hft'
            have hlen : ((a :: t).drop N).length ≤ n := by rw [List.length_drop]; simp at hn ⊢; omega
            obtain ⟨w1, w2, e3, e4⟩ := sp_take n ((a :: t).drop N) false f' g' (p + N) (i + 1 - N) c v hlen hv (drop_get (a :: t) (i + 1) N c hj hft'.2) hc (by rw [List.length_drop]; simp at hf ⊢; omega) (by omega)
            refine ⟨((first (a :: t)).1, p, (a :: t).take N) :: w1, w2, by rw [e3, hN]; rfl, ?_⟩
            rw [sp_word g' p _ z2 (by simp) (by rw [hft'.1, hN]; exact hz), hft'.1, hN]
            have e5 : (a :: t.take i).drop N = ((a :: t).drop N).take (i + 1 - N) := by
              rw [← List.take_succ_cons, List.drop_take]
            have e6 : (a :: t.take i).take N = (a :: t).take N := by
              rw [← List.take_succ_cons, List.take_take, Nat.min_eq_left hft'.2]
            rw [e5, e4, e6]
            rfl
theorem split_take (l : List UInt8) (j : Nat) (c : UInt8) (ws : List W) (h : split l = .ok ws) (hj : l[j]? = some c) (hc : Ends c) : ∃ w1 w2, ws = w1 ++ w2 ∧ split (l.take j) = .ok w1 := by
  have hlt : j < l.length := (List.getElem?_eq_some_iff.1 hj).1
  rw [sp_split] at h
  obtain ⟨w1, w2, e1, e2⟩ := sp_take l.length l false (l.length + 1) (j + 1) 0 j c ws (Nat.le_refl _) h hj hc (Nat.lt_succ_self _) (Nat.lt_succ_self _)
  refine ⟨w1, w2, e1, ?_⟩
  rw [sp_split, List.length_take, Nat.min_eq_left (Nat.le_of_lt hlt)]
  exact e2
theorem go_err : ∀ (f p : Nat) (d : List UInt8) (n : Nat), go f p d = .error n → n ≤ p + d.length
  | 0, _, _, _, h => by simp [go] at h
  | f + 1, p, d, n, h => by
    unfold go at h
    split at h
    · cases h
    · split at h
      · cases h; omega
      · cases hg : go f (p + ((first d).2 + gap (d.drop (first d).2))) (d.drop ((first d).2 + gap (d.drop (first d).2))) with
        | ok v => rw [hg] at h; simp [pre] at h
        | error e =>
          rw [hg] at h
          simp [pre] at h
          subst h
          have h1 := go_err f _ _ _ hg
          have h2 := gap_le (d.drop (first d).2)
          rw [List.length_drop] at h1 h2
          by_cases e : (first d).2 ≤ d.length
          · omega
          · have : d.drop (first d).2 = [] := List.drop_eq_nil_of_le (by omega)
            rw [List.drop_eq_nil_of_le (show d.length ≤ (first d).2 + gap (d.drop (first d).2) by omega)] at hg
            cases f with
            | zero => simp [go] at hg
            | succ f => simp [go] at hg
theorem split_err (l : List UInt8) (n : Nat) (h : split l = .error n) : n ≤ l.length := by
  unfold split at h
  have h1 := go_err _ _ _ _ h
  have h2 := gap_le l
  rw [List.length_drop] at h1
  omega
end WP

namespace PP
theorem src_err {l : List UInt8} {c p : Nat} (h : src l = .error (c, p)) : (c = 0 ∨ c = 5) ∧ p ≤ l.length := by
  unfold src at h
  cases hw : WP.split l with
  | error n =>
    rw [hw] at h
    cases h
    exact ⟨.inl rfl, WP.split_err l _ hw⟩
  | ok ws =>
    rw [hw] at h
    simp only at h
    obtain ⟨-, f2⟩ := WP.split_fit hw
    have hi := inv_icon l.length (start l.length ws) ⟨rfl, fun u hu => (f2 u hu).2.1, fun e he => absurd he (by simp [start])⟩
    cases he : (icon (start l.length ws)).2.er with
    | none => rw [he] at h; cases h
    | some e =>
      rw [he] at h
      cases h
      exact hi.2.2 _ he
/-- Where the whole text is read, a text that is cut at a blank is read, or told at its end. -/
theorem src_cut {l : List UInt8} {X : Src} {k : Nat} {c : UInt8} (h : src l = .ok X) (hk : l[k]? = some c) (hc : WP.Ends c) : (∃ Y, src (l.take k) = .ok Y) ∨ src (l.take k) = .error (0, k) := by
  have hlt : k < l.length := (List.getElem?_eq_some_iff.1 hk).1
  unfold src at h
  cases hw : WP.split l with
  | error n => rw [hw] at h; cases h
  | ok ws =>
    rw [hw] at h
    simp only at h
    cases he : (icon (start l.length ws)).2.er with
    | some e => rw [he] at h; cases h
    | none =>
      obtain ⟨w1, w2, rfl, e2⟩ := WP.split_take l k c ws hw hk hc
      have hz : (l.take k).length = k := by rw [List.length_take]; omega
      unfold src
      rw [e2]
      simp only [hz]
      rcases icon_cut l.length k w1 w2 he with e | e
      · rw [e]; exact .inl ⟨_, rfl⟩
      · rw [e]; exact .inr rfl
end PP
end Go.Proofs.YtkhclolhkpkaeaaGreatDoor

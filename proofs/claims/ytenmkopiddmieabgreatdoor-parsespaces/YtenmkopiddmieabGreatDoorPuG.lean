import Derived.Test.YtenmkopiddmieabGreatDoorParsePlain
import Derived.Test.YtenmkopiddmieabGreatDoorJA
/-
  A parser that is blind to places: words without places are read as the same icon without places, and the first that is amiss is amiss in both.
-/
namespace Go.Proofs.YtenmkopiddmieabGreatDoor
namespace PP

def zw (u : WP.W) : WP.W := (u.1, 0, u.2.2)
def St.z (s : St) : St := ⟨0, s.ws.map zw, s.er.map (fun e => (e.1, 0))⟩
def Val.z (v : Val) : Val := ⟨v.name, v.n, 0⟩
def Ref.z (v : Ref) : Ref := ⟨v.name, v.c, 0⟩
def Step.z (v : Step) : Step := ⟨v.kind, 0, v.vs.map Val.z⟩
def Item.z (v : Item) : Item := ⟨v.use, 0, v.steps.map Step.z, v.name, v.x.z, v.y.z, v.by'.z, v.turn⟩
def Shape.z (v : Shape) : Shape := ⟨v.name, 0, v.items.map Item.z⟩
def Paint.z (p : Paint) : Paint := ⟨p.kind, p.a.z, p.b.z, p.p0.z, p.p1.z, p.p2.z, p.p3.z⟩
def Cmd.z (c : Cmd) : Cmd := ⟨c.kind, c.rule, 0, c.width.z, c.paint.z, c.items.map Item.z⟩
def Src.z (x : Src) : Src := ⟨x.w, x.h, x.scale, x.consts.map Val.z, x.colors.map Ref.z, x.shapes.map Shape.z, x.cmds.map Cmd.z⟩

theorem nx_z (s : St) : s.z.nx = zw s.nx := by
  obtain ⟨n, ws, e⟩ := s
  cases ws <;> rfl
theorem k_z (s : St) : s.z.nx.1 = s.nx.1 := by rw [nx_z]; rfl
theorem t_z (s : St) : s.z.nx.2.2 = s.nx.2.2 := by rw [nx_z]; rfl
theorem p_z (s : St) : s.z.nx.2.1 = 0 := by rw [nx_z]; rfl
theorem tl_z (s : St) : s.z.tl = s.tl.z := by
  obtain ⟨n, ws, e⟩ := s
  simp [St.z, St.tl, List.map_tail]
theorem fail_z (c : Nat) (s : St) : s.z.fail c = (s.fail c).z := by
  have h := p_z s
  obtain ⟨n, ws, e⟩ := s
  unfold St.fail
  rw [h]
  cases e <;> rfl
theorem is_z (s : St) (t : Tx) : s.z.is t = s.is t := by unfold St.is; rw [t_z]
theorem skip_z (t : Tx) (s : St) : s.z.skip t = (s.skip t).z := by
  unfold St.skip
  rw [is_z]
  split
  · exact tl_z s
  · exact fail_z 0 s
theorem need_z (k : Nat) (s : St) : s.z.need k = (s.need k).z := by
  unfold St.need
  rw [k_z]
  split
  · rfl
  · exact fail_z 0 s
theorem more_z (m n : Nat) (s : St) : s.z.more m n = (s.more m n).z := by
  unfold St.more
  split
  · exact fail_z 5 s
  · rfl
theorem len_z (s : St) : s.z.ws.length = s.ws.length := by simp [St.z]

theorem numb_z (s : St) : numb s.z = ((numb s).1, (numb s).2.z) := by
  unfold numb
  rw [t_z]
  split
  · rw [tl_z]
  · rw [fail_z, tl_z]
theorem colr_z (s : St) : colr s.z = ((colr s).1, (colr s).2.z) := by
  unfold colr
  rw [t_z]
  split
  · rw [tl_z]
  · rw [fail_z, tl_z]
theorem whol_z (s : St) : whol s.z = ((whol s).1, (whol s).2.z) := by
  unfold whol
  rw [t_z]
  split
  · rw [tl_z]
  · rw [fail_z, tl_z]
theorem turn_z (s : St) : turn s.z = ((turn s).1, (turn s).2.z) := by
  unfold turn
  rw [t_z]
  cases NP.whole s.nx.2.2 with
  | none => exact whol_z s
  | some n =>
    simp only
    split
    · rw [fail_z]; exact whol_z _
    · exact whol_z s
theorem nameW_z (s : St) : nameW s.z = (zw (nameW s).1, (nameW s).2.z) := by
  unfold nameW
  rw [need_z, nx_z, tl_z]
theorem val_z (s : St) : val s.z = ((val s).1.z, (val s).2.z) := by
  unfold val
  rw [k_z, t_z, p_z, tl_z, numb_z]
  split <;> rfl
theorem ref_z (s : St) : ref s.z = ((ref s).1.z, (ref s).2.z) := by
  unfold ref
  rw [k_z, t_z, p_z, tl_z, colr_z]
  split <;> rfl
theorem vals_z : ∀ (n : Nat) (s : St), vals n s.z = ((vals n s).1.map Val.z, (vals n s).2.z)
  | 0, s => rfl
  | n + 1, s => by
    unfold vals
    rw [val_z]
    simp only [vals_z n, List.map_cons]
theorem step_z (s : St) : step s.z = ((step s).1.z, (step s).2.z) := by
  unfold step
  rw [t_z, p_z, tl_z, vals_z]
  rfl
theorem stepsGo_z : ∀ (f : Nat) (l : List Step) (s : St), stepsGo f (l.map Step.z) s.z = ((stepsGo f l s).1.map Step.z, (stepsGo f l s).2.z)
  | 0, l, s => rfl
  | f + 1, l, s => by
    unfold stepsGo
    rw [k_z, List.length_map, more_z, step_z]
    split
    · have h := stepsGo_z f (l ++ [(step (s.more 1000 l.length)).1]) (step (s.more 1000 l.length)).2
      rw [List.map_append] at h
      exact h
    · rfl
theorem steps_z (s : St) : steps s.z = ((steps s).1.map Step.z, (steps s).2.z) := by
  unfold steps
  rw [need_z, len_z]
  exact stepsGo_z _ [] _
theorem path_z (s : St) : path s.z = ((path s).1.z, (path s).2.z) := by
  unfold path
  rw [p_z, skip_z, steps_z]
  simp only [skip_z]
  rfl
theorem useBy_z (p : Nat) (s : St) : useBy 0 s.z = ((useBy p s).1.z, (useBy p s).2.z) := by
  unfold useBy
  rw [is_z, tl_z, val_z]
  split <;> rfl
theorem useTurn_z (s : St) : useTurn s.z = ((useTurn s).1, (useTurn s).2.z) := by
  unfold useTurn
  rw [is_z, tl_z, turn_z]
  split <;> rfl
theorem use_z (s : St) : use s.z = ((use s).1.z, (use s).2.z) := by
  unfold use
  simp only [p_z, skip_z, nameW_z, val_z, useBy_z s.nx.2.1, useTurn_z]
  rfl
theorem item_z (s : St) : item s.z = ((item s).1.z, (item s).2.z) := by
  unfold item
  rw [is_z, path_z, use_z]
  split <;> rfl
theorem itemsGo_z : ∀ (f : Nat) (l : List Item) (s : St), itemsGo f (l.map Item.z) s.z = ((itemsGo f l s).1.map Item.z, (itemsGo f l s).2.z)
  | 0, l, s => rfl
  | f + 1, l, s => by
    unfold itemsGo
    rw [is_z, is_z, List.length_map, more_z, item_z]
    split
    · have h := itemsGo_z f (l ++ [(item (s.more 400 l.length)).1]) (item (s.more 400 l.length)).2
      rw [List.map_append] at h
      exact h
    · rfl
theorem items_z (s : St) : items s.z = ((items s).1.map Item.z, (items s).2.z) := by
  unfold items
  rw [skip_z, len_z]
  have h := itemsGo_z ((s.skip m_open).ws.length + 1) [] (s.skip m_open)
  rw [List.map_nil] at h
  rw [h]
  simp only [skip_z]
theorem rule_z (s : St) : rule s.z = ((rule s).1, (rule s).2.z) := by
  unfold rule
  rw [is_z, tl_z, skip_z]
  split <;> rfl
theorem getD_z (l : List Val) (k : Nat) : (l.map Val.z).getD k v0 = (l.getD k v0).z := by
  rw [List.getD_eq_getElem?_getD, List.getD_eq_getElem?_getD, List.getElem?_map]
  cases l[k]? <;> rfl
theorem between_z (k n : Nat) (s : St) : between k n s.z = ((between k n s).1.z, (between k n s).2.z) := by
  unfold between
  simp only [ref_z, vals_z, getD_z]
  rfl
theorem paint_z (s : St) : paint s.z = ((paint s).1.z, (paint s).2.z) := by
  unfold paint
  simp only [is_z, tl_z, between_z, ref_z]
  split
  · rfl
  · split <;> rfl
theorem cmd_z (s : St) : cmd s.z = ((cmd s).1.z, (cmd s).2.z) := by
  unfold cmd
  simp only [is_z, p_z, tl_z, rule_z, skip_z, val_z, paint_z, items_z]
  split <;> rfl
theorem const_z (s : St) : const s.z = ((const s).1.z, (const s).2.z) := by
  unfold const
  simp only [nameW_z, skip_z, numb_z]
  rfl
theorem named_z (s : St) : named s.z = ((named s).1.z, (named s).2.z) := by
  unfold named
  simp only [nameW_z, skip_z, colr_z]
  rfl
theorem shape_z (s : St) : shape s.z = ((shape s).1.z, (shape s).2.z) := by
  unfold shape
  simp only [nameW_z, items_z]
  rfl
theorem part_z (x : Src) (s : St) : part x.z s.z = ((part x s).1.z, (part x s).2.z) := by
  have l1 : x.z.consts.length = x.consts.length := by simp [Src.z]
  have l2 : x.z.colors.length = x.colors.length := by simp [Src.z]
  have l3 : x.z.shapes.length = x.shapes.length := by simp [Src.z]
  have l4 : x.z.cmds.length = x.cmds.length := by simp [Src.z]
  unfold part
  simp only [is_z, tl_z, need_z, more_z, l1, l2, l3, l4, const_z, named_z, shape_z, cmd_z, fail_z]
  split
  · simp [Src.z]
  · split
    · simp [Src.z]
    · split
      · simp [Src.z]
      · split
        · simp [Src.z]
        · rfl
theorem partsGo_z : ∀ (f : Nat) (x : Src) (s : St), partsGo f x.z s.z = ((partsGo f x s).1.z, (partsGo f x s).2.z)
  | 0, x, s => rfl
  | f + 1, x, s => by
    unfold partsGo
    rw [len_z, part_z]
    split
    · rfl
    · exact partsGo_z f _ _
def scaleGo (s : St) : Nat × St := if s.is k_scale = true then whol s.tl else (0, s)
theorem scaleGo_z (s : St) : scaleGo s.z = ((scaleGo s).1, (scaleGo s).2.z) := by
  unfold scaleGo
  rw [is_z, tl_z, whol_z]
  split <;> rfl
theorem headGo_is (s : St) : headGo s = (⟨(whol (s.skip k_icon)).1, (whol (whol (s.skip k_icon)).2).1, (scaleGo (whol (whol (s.skip k_icon)).2).2).1, [], [], [], []⟩, (scaleGo (whol (whol (s.skip k_icon)).2).2).2.skip m_semi) := rfl
theorem headGo_z (s : St) : headGo s.z = ((headGo s).1.z, (headGo s).2.z) := by
  rw [headGo_is, headGo_is]
  simp only [skip_z, whol_z, scaleGo_z]
  rfl
theorem icon_z (s : St) : icon s.z = ((icon s).1.z, (icon s).2.z) := by
  unfold icon
  rw [headGo_z, len_z, partsGo_z]

/-- What is read of two texts whose words are the same but for places. -/
theorem src_same {l m : Tx} {ws vs : List WP.W} (hl : WP.split l = .ok ws) (hm : WP.split m = .ok vs) (h : ws.map zw = vs.map zw) :
    (∃ X Y, src l = .ok X ∧ src m = .ok Y ∧ X.z = Y.z) ∨ ∃ c d, src l = .error c ∧ src m = .error d := by
  have h1 := icon_z (start l.length ws)
  have h2 := icon_z (start m.length vs)
  have h3 : (start l.length ws).z = (start m.length vs).z := by simp [start, St.z, h]
  rw [h3, h2] at h1
  obtain ⟨e1, e2⟩ := Prod.mk.inj h1
  have e3 : ((icon (start m.length vs)).2.er.isSome) = ((icon (start l.length ws)).2.er.isSome) := by
    have := congrArg (fun s => s.er.isSome) e2
    simpa [St.z] using this
  unfold src
  rw [hl, hm]
  simp only
  cases hb : (icon (start l.length ws)).2.er with
  | some c =>
    rw [hb] at e3
    obtain ⟨d, hd⟩ := Option.isSome_iff_exists.1 e3
    rw [hd]
    exact .inr ⟨c, d, rfl, rfl⟩
  | none =>
    rw [hb] at e3
    cases ha : (icon (start m.length vs)).2.er with
    | some d => rw [ha] at e3; cases e3
    | none => exact .inl ⟨_, _, rfl, rfl, e1.symm⟩

end PP
end Go.Proofs.YtenmkopiddmieabGreatDoor

/-
  Where a word ends, whatever sign ends it; the words from a place on.
-/
namespace Go.Proofs.YtenmkopiddmieabGreatDoor
namespace WP
namespace ST

/-! The words from a place on (r: within a remark). -/
def sp (r : Bool) (f p : Nat) (d : List UInt8) : Except Nat (List W) := go f (p + gaps r d) (d.drop (gaps r d))
theorem sp_split (l : List UInt8) : split l = sp false (l.length + 1) 0 l := by unfold split sp; rw [Nat.zero_add]; rfl
theorem sp_on (r q : Bool) (f p : Nat) (a : UInt8) (t : List UInt8) (h : gaps r (a :: t) = gaps q t + 1) : sp r f p (a :: t) = sp q f (p + 1) t := by
  unfold sp
  rw [h, List.drop_succ_cons, show p + (gaps q t + 1) = p + 1 + gaps q t by omega]
theorem sp_zero (f p : Nat) (d : List UInt8) (h : gaps false d = 0) : sp false f p d = go f p d := by unfold sp; rw [h]; rfl
theorem sp_word (f p : Nat) (d : List UInt8) (h : gaps false d = 0) (hd : d ≠ []) (hn : (first d).2 ≠ 0) : sp false (f + 1) p d = pre [((first d).1, p, d.take (first d).2)] (sp false f (p + (first d).2) (d.drop (first d).2)) := by
  rw [sp_zero _ _ _ h]
  conv => lhs; unfold go
  rw [if_neg hd, if_neg hn]
  unfold sp
  rw [List.drop_drop, Nat.add_assoc]
  rfl
theorem sp_none (f p : Nat) (d : List UInt8) (h : gaps false d = 0) (hd : d ≠ []) (hn : (first d).2 = 0) : sp false (f + 1) p d = .error p := by
  rw [sp_zero _ _ _ h]
  unfold go
  rw [if_neg hd, if_pos hn]

/-- What ends a piece: a byte that is of no class. -/
def Ends (c : UInt8) : Prop := c = 32 ∨ c = 10 ∨ c = 9 ∨ c = 13 ∨ c = 47 ∨ c = 59
theorem Ends.no (c : UInt8) (h : Ends c) : nsign c = false ∧ digit c = false ∧ cdig c = false ∧ sign c = false ∧ poh c = false ∧ small c = false ∧ step c = false := by
  rcases h with rfl | rfl | rfl | rfl | rfl | rfl <;> decide

theorem count_take (p : UInt8 → Bool) : ∀ (l : List UInt8) (j : Nat) (c : UInt8), l[j]? = some c → p c = false → count p (l.take j) = count p l ∧ count p l ≤ j
  | [], j, c, h, _ => by simp at h
  | a :: l, 0, c, h, hp => by
    simp at h
    subst h
    simp [count, hp]
  | a :: l, j + 1, c, h, hp => by
    have ih := count_take p l j c (by simpa using h) hp
    simp only [List.take_succ_cons, count]
    split
    · exact ⟨by rw [ih.1], by omega⟩
    · exact ⟨rfl, by omega⟩
theorem begins_take (p : UInt8 → Bool) (l : List UInt8) (j m : Nat) (c : UInt8) (h : l[j]? = some c) (hp : p c = false) (hm : m ≤ j) : begins p ((l.take j).drop m) = begins p (l.drop m) := by
  have hj : j < l.length := (List.getElem?_eq_some_iff.1 h).1
  rcases Nat.lt_or_ge m j with hlt | hge
  · have h1 : (l.take j).drop m = l[m] :: (l.take j).drop (m + 1) := by
      rw [List.drop_eq_getElem_cons (by rw [List.length_take]; omega)]
      simp
    have h2 : l.drop m = l[m] :: l.drop (m + 1) := List.drop_eq_getElem_cons (by omega)
    rw [h1, h2]
    rfl
  · have e : m = j := by omega
    subst e
    have h2 : l.drop m = l[m] :: l.drop (m + 1) := List.drop_eq_getElem_cons hj
    have hc : l[m] = c := (List.getElem?_eq_some_iff.1 h).2
    rw [h2, List.drop_eq_nil_of_le (by rw [List.length_take]; omega)]
    simp [begins, hc, hp]
theorem glued_take (l : List UInt8) (j m : Nat) (c : UInt8) (h : l[j]? = some c) (hc : Ends c) (hm : m ≤ j) : glued ((l.take j).drop m) = glued (l.drop m) := by
  unfold glued
  rw [begins_take sign l j m c h (Ends.no c hc).2.2.2.1 hm, begins_take poh l j m c h (Ends.no c hc).2.2.2.2.1 hm]
theorem drop_get (l : List UInt8) (j m : Nat) (c : UInt8) (h : l[j]? = some c) (hm : m ≤ j) : (l.drop m)[j - m]? = some c := by
  rw [List.getElem?_drop, show m + (j - m) = j by omega]
  exact h
theorem digits_take (l : List UInt8) (j : Nat) (c : UInt8) (h : l[j]? = some c) (hc : Ends c) : digits (l.take j) = digits l ∧ digits l ≤ j := by
  obtain ⟨h1, h2⟩ := count_take digit l j c h (Ends.no c hc).2.1
  unfold digits
  rw [h1]
  split
  · exact ⟨rfl, Nat.zero_le _⟩
  · exact ⟨rfl, h2⟩
theorem pre_take (l : List UInt8) (j : Nat) (c a : UInt8) (h : l[j]? = some c) (hc : Ends c) (ha : ¬ Ends a) : Lib.hasPrefix (l.take j) [a] = Lib.hasPrefix l [a] ∧ (Lib.hasPrefix l [a] = true → 1 ≤ j) := by
  cases j with
  | zero =>
    cases l with
    | nil => simp at h
    | cons b t =>
      simp at h
      subst h
      have : ¬ a = b := fun e => ha (e ▸ hc)
      simp [Lib.hasPrefix, List.isPrefixOf, this]
  | succ j =>
    cases l with
    | nil => simp at h
    | cons b t => simp [Lib.hasPrefix, List.isPrefixOf]
theorem trim_take (l : List UInt8) (j : Nat) (c a : UInt8) (h : l[j]? = some c) (hc : Ends c) (ha : ¬ Ends a) :
    ∃ i, i ≤ j ∧ i ≤ 1 ∧ Lib.trimPrefix (l.take j) [a] = (l.drop i).take (j - i) ∧ Lib.trimPrefix l [a] = l.drop i := by
  obtain ⟨h1, h2⟩ := pre_take l j c a h hc ha
  unfold Lib.trimPrefix
  rw [h1]
  by_cases e : Lib.hasPrefix l [a] = true
  · rw [if_pos e, if_pos e]
    exact ⟨1, h2 e, Nat.le_refl _, by simp [List.drop_take], rfl⟩
  · rw [if_neg e, if_neg e]
    exact ⟨0, Nat.zero_le _, Nat.zero_le _, by simp, by simp⟩
theorem numRest_take (l : List UInt8) (j : Nat) (c : UInt8) (h : l[j]? = some c) (hc : Ends c) :
    (numRest l = none ∧ numRest (l.take j) = none) ∨ ∃ i, i ≤ j ∧ numRest l = some (l.drop i) ∧ numRest (l.take j) = some ((l.drop i).take (j - i)) := by
  have n45 : ¬ Ends 45 := by unfold Ends; decide
  have n46 : ¬ Ends 46 := by unfold Ends; decide
  obtain ⟨i, hi, -, e1, e2⟩ := trim_take l j c 45 h hc n45
  have g1 := drop_get l j i c h hi
  obtain ⟨d1, d2⟩ := digits_take (l.drop i) (j - i) c g1 hc
  unfold numRest
  simp only [e1, e2, d1]
  by_cases z : digits (l.drop i) = 0
  · exact .inl ⟨by rw [if_pos z], by rw [if_pos z]⟩
  · rw [if_neg z, if_neg z]
    obtain ⟨k, hk⟩ : ∃ k, i + digits (l.drop i) = k := ⟨_, rfl⟩
    have hkj : k ≤ j := by omega
    have r1 : (l.drop i).drop (digits (l.drop i)) = l.drop k := by rw [List.drop_drop, hk]
    have r2 : ((l.drop i).take (j - i)).drop (digits (l.drop i)) = (l.drop k).take (j - k) := by
      rw [List.drop_take, r1, show j - i - digits (l.drop i) = j - k by omega]
    rw [r1, r2]
    have g2 := drop_get l j k c h hkj
    obtain ⟨p1, -⟩ := pre_take (l.drop k) (j - k) c 46 g2 hc n46
    rw [p1]
    by_cases q : Lib.hasPrefix (l.drop k) [46] = true
    · rw [if_pos q, if_pos q]
      obtain ⟨i2, hi2, -, e3, e4⟩ := trim_take (l.drop k) (j - k) c 46 g2 hc n46
      rw [e3, e4]
      obtain ⟨k2, hk2⟩ : ∃ k2, k + i2 = k2 := ⟨_, rfl⟩
      have hk2j : k2 ≤ j := by omega
      have r3 : (l.drop k).drop i2 = l.drop k2 := by rw [List.drop_drop, hk2]
      rw [r3, show j - k - i2 = j - k2 by omega]
      have g3 := drop_get l j k2 c h hk2j
      obtain ⟨d3, d4⟩ := digits_take (l.drop k2) (j - k2) c g3 hc
      rw [d3]
      by_cases y : digits (l.drop k2) = 0
      · exact .inl ⟨by rw [if_pos y], by rw [if_pos y]⟩
      · rw [if_neg y, if_neg y]
        obtain ⟨k3, hk3⟩ : ∃ k3, k2 + digits (l.drop k2) = k3 := ⟨_, rfl⟩
        have hk3j : k3 ≤ j := by omega
        have r4 : (l.drop k2).drop (digits (l.drop k2)) = l.drop k3 := by rw [List.drop_drop, hk3]
        have r5 : ((l.drop k2).take (j - k2)).drop (digits (l.drop k2)) = (l.drop k3).take (j - k3) := by
          rw [List.drop_take, r4, show j - k2 - digits (l.drop k2) = j - k3 by omega]
        have gl : glued ((l.drop k3).take (j - k3)) = glued (l.drop k3) := by
          have := glued_take (l.drop k3) (j - k3) 0 c (drop_get l j k3 c h hk3j) hc (Nat.zero_le _)
          simpa using this
        rw [r4, r5, gl]
        by_cases x : glued (l.drop k3) = true
        · exact .inl ⟨by rw [if_pos x], by rw [if_pos x]⟩
        · rw [if_neg x, if_neg x]
          exact .inr ⟨k3, hk3j, rfl, rfl⟩
    · rw [if_neg q, if_neg q]
      have gl : glued ((l.drop k).take (j - k)) = glued (l.drop k) := by
        have := glued_take (l.drop k) (j - k) 0 c g2 hc (Nat.zero_le _)
        simpa using this
      rw [gl]
      by_cases x : glued (l.drop k) = true
      · exact .inl ⟨by rw [if_pos x], by rw [if_pos x]⟩
      · rw [if_neg x, if_neg x]
        exact .inr ⟨k, hkj, rfl, rfl⟩
theorem numSize_take (l : List UInt8) (j : Nat) (c : UInt8) (h : l[j]? = some c) (hc : Ends c) : numSize (l.take j) = numSize l ∧ numSize l ≤ j := by
  have hj : j < l.length := (List.getElem?_eq_some_iff.1 h).1
  unfold numSize
  rcases numRest_take l j c h hc with ⟨e1, e2⟩ | ⟨i, hi, e1, e2⟩
  · rw [e1, e2]; exact ⟨rfl, Nat.zero_le _⟩
  · rw [e1, e2]
    simp only [List.length_take, List.length_drop]
    omega
theorem nameSize_take (l : List UInt8) (j : Nat) (c : UInt8) (h : l[j]? = some c) (hc : Ends c) : nameSize (l.take j) = nameSize l ∧ nameSize l ≤ j := by
  obtain ⟨h1, h2⟩ := count_take nsign l j c h (Ends.no c hc).1
  unfold nameSize
  rw [h1]
  split
  · exact ⟨rfl, Nat.zero_le _⟩
  · exact ⟨rfl, h2⟩
theorem colSize_take (l : List UInt8) (j : Nat) (c : UInt8) (h : l[j]? = some c) (hc : Ends c) (hj : 1 ≤ j) : colSize (l.take j) = colSize l ∧ colSize l ≤ j := by
  obtain ⟨h1, h2⟩ := count_take cdig (l.drop 1) (j - 1) c (drop_get l j 1 c h hj) (Ends.no c hc).2.2.1
  have e : (l.take j).drop 1 = (l.drop 1).take (j - 1) := by rw [List.drop_take]
  unfold colSize
  rw [e, h1]
  have g := glued_take l j (1 + count cdig (l.drop 1)) c h hc (by omega)
  simp only [g]
  refine ⟨trivial, ?_⟩
  split
  · exact Nat.zero_le _
  · omega
/-- The word at the front is the same, where the text is cut at a blank behind it. -/
theorem first_take (l : List UInt8) (j : Nat) (c : UInt8) (h : l[j]? = some c) (hc : Ends c) (hj : 1 ≤ j) : first (l.take j) = first l ∧ (first l).2 ≤ j := by
  cases l with
  | nil => simp at h
  | cons a t =>
    obtain ⟨i, rfl⟩ : ∃ i, j = i + 1 := ⟨j - 1, by omega⟩
    have n1 := nameSize_take (a :: t) (i + 1) c h hc
    have n2 := numSize_take (a :: t) (i + 1) c h hc
    have n3 := colSize_take (a :: t) (i + 1) c h hc hj
    have hb : begins sign (t.take i) = begins sign t := by
      have := begins_take sign (a :: t) (i + 1) 1 c h (Ends.no c hc).2.2.2.1 (by omega)
      simpa using this
    have hr : ((a :: t).take (i + 1)).take (nameSize (a :: t)) = (a :: t).take (nameSize (a :: t)) := by
      rw [List.take_take, Nat.min_eq_left n1.2]
    rw [List.take_succ_cons] at n1 n2 n3 hr ⊢
    unfold first
    simp only [n1.1, n2.1, n3.1, hb, hr]
    refine ⟨trivial, ?_⟩
    split
    · split <;> exact n1.2
    · split
      · exact n2.2
      · split
        · exact n3.2
        · split
          · show 1 ≤ i + 1; omega
          · split
            · show 1 ≤ i + 1; omega
            · exact Nat.zero_le _

/-- A word hangs on the signs ahead of the first that ends one. -/
theorem first_ends (w r : List UInt8) (c : UInt8) (hw : w ≠ []) (hc : Ends c) : first (w ++ c :: r) = first w ∧ (first w).2 ≤ w.length := by
  have h := first_take (w ++ c :: r) w.length c (by simp) hc (by cases w with | nil => exact absurd rfl hw | cons _ _ => simp)
  rw [List.take_left] at h
  exact ⟨h.1.symm, by rw [h.1]; exact h.2⟩

theorem pre_ok {a : List W} {r : Except Nat (List W)} {ws : List W} (h : pre a r = .ok ws) : ∃ v, r = .ok v ∧ ws = a ++ v := by
  unfold pre at h
  cases r with
  | error e => cases h
  | ok l => exact ⟨l, rfl, by simpa using h.symm⟩

end ST
end WP
end Go.Proofs.YtenmkopiddmieabGreatDoor

/-
  A text whose blanks have been made other blanks, lines, remarks: its words are the same but for places.
-/
namespace Go.Proofs.YtenmkopiddmieabGreatDoor
namespace WP
namespace ST

/-- What a blank may become. -/
def gtx : List (List UInt8) := [[32], [10], [9, 32], [32, 47, 47, 32, 120, 10]]
def rem1 (r : Bool) (c : UInt8) : Bool := (r || c == 47) && !(c == 10)
def gapT (G : Nat → List UInt8) : Bool → Nat → List UInt8 → List UInt8
  | _, _, [] => []
  | r, k, c :: t => if (c == 32 && !rem1 r c) = true then G k ++ gapT G (rem1 r c) (k + 1) t else c :: gapT G (rem1 r c) k t

theorem gapT_cons (G : Nat → List UInt8) (r : Bool) (k : Nat) (c : UInt8) (t : List UInt8) : gapT G r k (c :: t) = if (c == 32 && !rem1 r c) = true then G k ++ gapT G (rem1 r c) (k + 1) t else c :: gapT G (rem1 r c) k t := rfl
theorem gapT_true (G : Nat → List UInt8) (k : Nat) (c : UInt8) (t : List UInt8) : gapT G true k (c :: t) = c :: gapT G (rem1 true c) k t := by
  rw [gapT_cons, if_neg]
  unfold rem1
  by_cases h : c = 32
  · subst h; decide
  · have : (c == 32) = false := by simpa using h
    rw [this]
    simp
theorem gapT_word (G : Nat → List UInt8) : ∀ (w e : List UInt8) (k : Nat), (∀ c ∈ w, ¬ Ends c) → gapT G false k (w ++ e) = w ++ gapT G false k e
  | [], e, k, _ => rfl
  | c :: w, e, k, h => by
    have hc := h c (by simp)
    have h1 : (c == 32) = false := by simpa using fun e => hc (.inl e)
    have h2 : (c == 47) = false := by simpa using fun e => hc (.inr (.inr (.inr (.inr (.inl e)))))
    have h3 : rem1 false c = false := by simp [rem1, h2]
    rw [List.cons_append]
    rw [gapT_cons, if_neg (by simp [h1]), h3, gapT_word G w e k (fun x hx => h x (by simp [hx]))]
    rfl

def Alike (a b : Except Nat (List W)) : Prop := match a, b with
  | .ok ws, .ok vs => ws.map PP.zw = vs.map PP.zw
  | .error _, .error _ => True
  | _, _ => False

theorem sp_gap (g q : Nat) (G rest : List UInt8) (h : G ∈ gtx) : ∃ q', sp false g q (G ++ rest) = sp false g q' rest := by
  simp only [gtx, List.mem_cons, List.not_mem_nil, or_false] at h
  rcases h with rfl | rfl | rfl | rfl
  · exact ⟨_, sp_on false false g q 32 rest rfl⟩
  · exact ⟨_, sp_on false false g q 10 rest rfl⟩
  · exact ⟨_, (sp_on false false g q 9 (32 :: rest) rfl).trans (sp_on false false g _ 32 rest rfl)⟩
  · exact ⟨_, (sp_on false false g q 32 (47 :: 47 :: 32 :: 120 :: 10 :: rest) rfl).trans ((sp_on false true g _ 47 (47 :: 32 :: 120 :: 10 :: rest) rfl).trans ((sp_on true true g _ 47 (32 :: 120 :: 10 :: rest) rfl).trans ((sp_on true true g _ 32 (120 :: 10 :: rest) rfl).trans ((sp_on true true g _ 120 (10 :: rest) rfl).trans (sp_on true false g _ 10 rest rfl)))))⟩

theorem gtx_head (G : List UInt8) (h : G ∈ gtx) : ∃ c t, G = c :: t ∧ Ends c := by
  simp only [gtx, List.mem_cons, List.not_mem_nil, or_false] at h
  rcases h with rfl | rfl | rfl | rfl
  · exact ⟨_, _, rfl, .inl rfl⟩
  · exact ⟨_, _, rfl, .inr (.inl rfl)⟩
  · exact ⟨_, _, rfl, .inr (.inr (.inl rfl))⟩
  · exact ⟨_, _, rfl, .inl rfl⟩

instance (c : UInt8) : Decidable (Ends c) := by unfold Ends; infer_instance

theorem cut_ends : ∀ (d : List UInt8), ∃ w e, d = w ++ e ∧ (∀ c ∈ w, ¬ Ends c) ∧ (e = [] ∨ ∃ s r, e = s :: r ∧ Ends s)
  | [] => ⟨[], [], rfl, by simp, .inl rfl⟩
  | c :: t => by
    by_cases h : Ends c
    · exact ⟨[], c :: t, rfl, by simp, .inr ⟨c, t, rfl, h⟩⟩
    · obtain ⟨w, e, h1, h2, h3⟩ := cut_ends t
      exact ⟨c :: w, e, by rw [h1]; rfl, fun x hx => by
        rcases List.mem_cons.1 hx with rfl | hx
        · exact h
        · exact h2 x hx, h3⟩

/-- The signs that end a word stand there still, or others that do. -/
theorem gapT_ends (G : Nat → List UInt8) (hG : ∀ k, G k ∈ gtx) (k : Nat) (s : UInt8) (r : List UInt8) (h : Ends s) : ∃ s' r', gapT G false k (s :: r) = s' :: r' ∧ Ends s' := by
  rw [gapT_cons]
  split
  · obtain ⟨c, t, e, hc⟩ := gtx_head (G k) (hG k)
    rw [e]
    exact ⟨c, _, rfl, hc⟩
  · exact ⟨s, _, rfl, h⟩

theorem pre_alike {u v : W} {a b : Except Nat (List W)} (h : Alike a b) (hu : PP.zw u = PP.zw v) : Alike (pre [u] a) (pre [v] b) := by
  cases a <;> cases b <;> simp_all [Alike, pre]

theorem gaps_none (c : UInt8) (t : List UInt8) (h1 : blank c = false) (h2 : c.toNat ≠ 47) : gaps false (c :: t) = 0 := by
  unfold gaps
  rw [if_neg (by simp), if_neg (by simp [h1]), if_neg (fun h => h2 h.1)]

theorem gap_alike (G : Nat → List UInt8) (hG : ∀ k, G k ∈ gtx) : ∀ (n : Nat) (d : List UInt8) (r : Bool) (k f g p q : Nat), d.length ≤ n → d.length < f → (gapT G r k d).length < g → Alike (sp r f p d) (sp r g q (gapT G r k d)) := by
  intro n
  induction n with
  | zero =>
    intro d r k f g p q hn hf hg
    obtain rfl : d = [] := List.length_eq_zero_iff.1 (by omega)
    cases f with
    | zero => simp at hf
    | succ f =>
      cases g with
      | zero => simp at hg
      | succ g => simp [sp, gapT, go, gaps, Alike]
  | succ n ih =>
    intro d r k f g p q hn hf hg
    cases d with
    | nil =>
      cases f with
      | zero => simp at hf
      | succ f =>
        cases g with
        | zero => simp at hg
        | succ g => simp [sp, gapT, go, gaps, Alike]
    | cons c t =>
      have hn' : t.length ≤ n := by simpa using hn
      have hf' : t.length < f := by simp at hf; omega
      cases r with
      | true =>
        rw [gapT_true] at hg ⊢
        have hg' : (gapT G (rem1 true c) k t).length < g := by simp at hg; omega
        by_cases hc : c = 10
        · subst hc
          rw [sp_on true false f p 10 t rfl, sp_on true false g q 10 _ rfl]
          exact ih t false k f g _ _ hn' hf' hg'
        · have h1 : ∀ t, gaps true (c :: t) = gaps true t + 1 := fun t => by
            have : c.toNat ≠ 10 := fun e => hc (UInt8.toNat_inj.1 e)
            conv => lhs; unfold gaps
            rw [if_pos rfl, if_neg this]
          have h2 : rem1 true c = true := by
            have : (c == 10) = false := by simpa using hc
            simp [rem1, this]
          rw [h2] at hg' ⊢
          rw [sp_on true true f p c t (h1 _), sp_on true true g q c _ (h1 _)]
          exact ih t true k f g _ _ hn' hf' hg'
      | false =>
        by_cases h32 : c = 32
        · subst h32
          have e : gapT G false k (32 :: t) = G k ++ gapT G false (k + 1) t := by
            rw [gapT_cons]
            rfl
          rw [e] at hg ⊢
          obtain ⟨q', hq⟩ := sp_gap g q (G k) (gapT G false (k + 1) t) (hG k)
          rw [hq, sp_on false false f p 32 t rfl]
          exact ih t false (k + 1) f g _ _ hn' hf' (by simp at hg; omega)
        have b32 : (c == 32) = false := by simpa using h32
        have e : gapT G false k (c :: t) = c :: gapT G (rem1 false c) k t := by
          rw [gapT_cons, if_neg (by simp [b32])]
        by_cases hb : blank c = true
        · have h47 : (c == 47) = false := by
            have : c ≠ 47 := fun e => by rw [e] at hb; exact absurd hb (by decide)
            simpa using this
          have hr : rem1 false c = false := by simp [rem1, h47]
          rw [hr] at e
          rw [e] at hg ⊢
          have h1 : ∀ t, gaps false (c :: t) = gaps false t + 1 := fun t => gap_blank t c hb
          rw [sp_on false false f p c t (h1 _), sp_on false false g q c _ (h1 _)]
          exact ih t false k f g _ _ hn' hf' (by simp at hg; omega)
        have hb : blank c = false := by simpa using hb
        by_cases h47 : c = 47
        · subst h47
          have hr : rem1 false 47 = true := rfl
          rw [hr] at e
          rw [e] at hg ⊢
          have bad : ∀ (f p : Nat) (t : List UInt8), 0 < f → begins (fun d => decide (d.toNat = 47)) t = false → sp false f p (47 :: t) = .error p := fun f p t hf hb => by
            cases f with
            | zero => omega
            | succ f =>
              refine sp_none f p _ ?_ (by simp) rfl
              unfold gaps
              rw [if_neg (by simp), if_neg (by decide), if_neg (by rw [hb]; simp)]
          cases t with
          | nil =>
            rw [bad f p [] (by omega) rfl]
            have : gapT G true k [] = [] := rfl
            rw [this] at hg ⊢
            rw [bad g q [] (by simp at hg; omega) rfl]
            trivial
          | cons x t =>
            by_cases hx : x = 47
            · subst hx
              rw [sp_on false true f p 47 (47 :: t) rfl]
              have e2 := gapT_true G k 47 t
              have h1 : gaps false (47 :: gapT G true k (47 :: t)) = gaps true (gapT G true k (47 :: t)) + 1 := by rw [e2]; rfl
              rw [sp_on false true g q 47 _ h1]
              exact ih (47 :: t) true k f g _ _ hn' hf' (by simp at hg; omega)
            · have hx' : decide (x.toNat = 47) = false := by simpa using fun e => hx (UInt8.toNat_inj.1 e)
              rw [bad f p (x :: t) (by omega) hx']
              rw [gapT_true] at hg ⊢
              rw [bad g q (x :: _) (by simp at hg; omega) hx']
              trivial
        by_cases h59 : c = 59
        · subst h59
          have hr : rem1 false 59 = false := rfl
          rw [hr] at e
          rw [e] at hg ⊢
          cases f with
          | zero => omega
          | succ f =>
            cases g with
            | zero => simp at hg
            | succ g =>
              have F : ∀ t, first (59 :: t) = (5, 1) := fun _ => rfl
              rw [sp_word f p (59 :: t) rfl (by simp) (by rw [F]; decide), sp_word g q (59 :: gapT G false k t) rfl (by simp) (by rw [F]; decide), F, F]
              exact pre_alike (ih t false k f g _ _ hn' (by simpa using hf) (by simpa using hg)) rfl
        have hne : ¬ Ends c := by
          rintro (h | h | h | h | h | h)
          · exact h32 h
          · rw [h] at hb; exact absurd hb (by decide)
          · rw [h] at hb; exact absurd hb (by decide)
          · rw [h] at hb; exact absurd hb (by decide)
          · exact h47 h
          · exact h59 h
        have hc47 : c.toNat ≠ 47 := fun e => h47 (UInt8.toNat_inj.1 e)
        have b47 : (c == 47) = false := by simpa using h47
        have hr : rem1 false c = false := by simp [rem1, b47]
        rw [hr] at e
        obtain ⟨w0, e0, ht, hw, he⟩ := cut_ends t
        have hw1 : ∀ x ∈ c :: w0, ¬ Ends x := fun x hx => by
          rcases List.mem_cons.1 hx with rfl | hx
          · exact hne
          · exact hw x hx
        have E : gapT G false k (c :: t) = (c :: w0) ++ gapT G false k e0 := by
          rw [ht, ← List.cons_append]
          exact gapT_word G (c :: w0) e0 k hw1
        have F1 : first (c :: t) = first (c :: w0) ∧ (first (c :: w0)).2 ≤ (c :: w0).length := by
          rcases he with rfl | ⟨s, r, rfl, hs⟩
          · rw [ht, List.append_nil]; exact ⟨rfl, first_le _⟩
          · rw [ht, ← List.cons_append]; exact first_ends (c :: w0) r s (by simp) hs
        have F2 : first ((c :: w0) ++ gapT G false k e0) = first (c :: w0) := by
          rcases he with rfl | ⟨s, r, rfl, hs⟩
          · show first ((c :: w0) ++ []) = _; rw [List.append_nil]
          · obtain ⟨s', r', h1, h2⟩ := gapT_ends G hG k s r hs
            rw [h1]
            exact (first_ends (c :: w0) r' s' (by simp) h2).1
        obtain ⟨m, hm⟩ : ∃ m, (first (c :: w0)).2 = m := ⟨_, rfl⟩
        have g1 : gaps false (c :: t) = 0 := gaps_none c t hb hc47
        have g2 : gaps false ((c :: w0) ++ gapT G false k e0) = 0 := gaps_none c _ hb hc47
        cases f with
        | zero => omega
        | succ f =>
          cases g with
          | zero => rw [e] at hg; simp at hg
          | succ g =>
            rw [E] at hg ⊢
            by_cases h0 : m = 0
            · rw [sp_none f p _ g1 (by simp) (by rw [F1.1, hm]; exact h0), sp_none g q _ g2 (by simp) (by rw [F2, hm]; exact h0)]
              trivial
            · rw [sp_word f p _ g1 (by simp) (by rw [F1.1, hm]; exact h0), sp_word g q _ g2 (by simp) (by rw [F2, hm]; exact h0), F1.1, F2, hm]
              have hml : m ≤ (c :: w0).length := by rw [← hm]; exact F1.2
              have T1 : (c :: t).take m = (c :: w0).take m := by
                rw [ht, ← List.cons_append, List.take_append_of_le_length hml]
              have T2 : ((c :: w0) ++ gapT G false k e0).take m = (c :: w0).take m := List.take_append_of_le_length hml
              have D1 : (c :: t).drop m = (c :: w0).drop m ++ e0 := by
                rw [ht, ← List.cons_append, List.drop_append_of_le_length hml]
              have D2 : ((c :: w0) ++ gapT G false k e0).drop m = gapT G false k ((c :: w0).drop m ++ e0) := by
                rw [List.drop_append_of_le_length hml, gapT_word G _ e0 k (fun x hx => hw1 x (List.mem_of_mem_drop hx))]
              have L1 : ((c :: w0).drop m ++ e0).length + m = t.length + 1 := by
                have := congrArg List.length D1
                rw [List.length_drop] at this
                rw [← this]
                have hl : (c :: w0).length ≤ (c :: t).length := by rw [ht]; simp
                simp only [List.length_cons] at hml hl ⊢
                omega
              have L2 : (gapT G false k ((c :: w0).drop m ++ e0)).length + m = ((c :: w0) ++ gapT G false k e0).length := by
                rw [← D2, List.length_drop]
                have : m ≤ ((c :: w0) ++ gapT G false k e0).length := by rw [List.length_append]; omega
                omega
              rw [T1, T2, D1, D2]
              simp only [List.length_cons] at hf
              exact pre_alike (ih _ false k f g _ _ (by omega) (by omega) (by omega)) rfl

/-- The words of a text whose blanks have been made others. -/
theorem split_gap (G : Nat → List UInt8) (hG : ∀ k, G k ∈ gtx) (l : List UInt8) : Alike (split l) (split (gapT G false 0 l)) := by
  rw [sp_split, sp_split]
  exact gap_alike G hG l.length l false 0 _ _ 0 0 (Nat.le_refl _) (by omega) (by omega)

end ST
end WP

namespace PP
/-- A text whose blanks have been made others is read as it was, but for places, or neither is. -/
theorem src_gap (G : Nat → List UInt8) (hG : ∀ k, G k ∈ WP.ST.gtx) (l : Tx) :
    (∃ X Y, src l = .ok X ∧ src (WP.ST.gapT G false 0 l) = .ok Y ∧ X.z = Y.z) ∨ ∃ c d, src l = .error c ∧ src (WP.ST.gapT G false 0 l) = .error d := by
  have h := WP.ST.split_gap G hG l
  cases hl : WP.split l with
  | error c =>
    cases hm : WP.split (WP.ST.gapT G false 0 l) with
    | error d => exact .inr ⟨(0, c), (0, d), by unfold src; rw [hl], by unfold src; rw [hm]⟩
    | ok vs => rw [hl, hm] at h; exact h.elim
  | ok ws =>
    cases hm : WP.split (WP.ST.gapT G false 0 l) with
    | error d => rw [hl, hm] at h; exact h.elim
    | ok vs => rw [hl, hm] at h; exact src_same hl hm h
end PP
end Go.Proofs.YtenmkopiddmieabGreatDoor

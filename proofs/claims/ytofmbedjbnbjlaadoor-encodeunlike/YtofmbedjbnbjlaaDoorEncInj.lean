/-
  Unlike icons have unlike bytes, none the beginning of others': plain numbers and lists.
-/
import Derived.Test.YtofmbedjbnbjlaaDoorEncPlain
namespace Go.Proofs.YtofmbedjbnbjlaaDoor
namespace EP
open IC

theorem enc_inj (n : Nat) : ∀ (m : Nat) (r t : List Nat), WP.enc n ++ r = WP.enc m ++ t → n = m ∧ r = t := by
  induction n using Nat.strongRecOn with
  | ind n ih =>
    intro m r t h
    by_cases hn : n < 128
    · by_cases hm : m < 128
      · rw [WP.enc_lt hn, WP.enc_lt hm] at h
        simpa using h
      · rw [WP.enc_lt hn, WP.enc_ge hm] at h
        simp at h
        omega
    · by_cases hm : m < 128
      · rw [WP.enc_ge hn, WP.enc_lt hm] at h
        simp at h
        omega
      · rw [WP.enc_ge hn, WP.enc_ge hm] at h
        simp only [List.cons_append, List.cons.injEq] at h
        have := ih (n / 128) (by omega) _ _ _ h.2
        exact ⟨by omega, this.2⟩

theorem num_inj {a b : Int} {r t : List Nat} (ha : 0 ≤ a) (hb : 0 ≤ b) (h : num a ++ r = num b ++ t) : a = b ∧ r = t := by
  have := enc_inj _ _ _ _ h
  exact ⟨by omega, this.2⟩
theorem zig_inj {a b : Int} (h : zig a = zig b) : a = b := by
  unfold zig at h
  split at h <;> split at h <;> omega
theorem zg_inj {a b : Int} {r t : List Nat} (h : zg a ++ r = zg b ++ t) : a = b ∧ r = t := by
  have := enc_inj _ _ _ _ h
  exact ⟨zig_inj this.1, this.2⟩
theorem pt_inj {p q : Pt} {r t : List Nat} (h : pt p ++ r = pt q ++ t) : p = q ∧ r = t := by
  unfold pt at h
  rw [List.append_assoc, List.append_assoc] at h
  obtain ⟨h1, k⟩ := zg_inj h
  obtain ⟨h2, kk⟩ := zg_inj k
  obtain ⟨_, _⟩ := p
  obtain ⟨_, _⟩ := q
  simp at h1 h2
  exact ⟨by rw [h1, h2], kk⟩
theorem dpt_inj {o p q : Pt} {r t : List Nat} (h : dpt o p ++ r = dpt o q ++ t) : p = q ∧ r = t := by
  unfold dpt at h
  rw [List.append_assoc, List.append_assoc] at h
  obtain ⟨h1, k⟩ := zg_inj h
  obtain ⟨h2, kk⟩ := zg_inj k
  obtain ⟨_, _⟩ := p
  obtain ⟨_, _⟩ := q
  simp at h1 h2
  refine ⟨?_, kk⟩
  congr 1 <;> omega
theorem way_inj : ∀ (l m : List Pt) (o : Pt) (r t : List Nat), l.length = m.length → way o l ++ r = way o m ++ t → l = m ∧ r = t := by
  intro l
  induction l with
  | nil =>
    intro m o r t hl h
    cases m with
    | nil => exact ⟨rfl, h⟩
    | cons x y => simp at hl
  | cons p l ih =>
    intro m o r t hl h
    cases m with
    | nil => simp at hl
    | cons q m =>
      have h' : dpt o p ++ way p l ++ r = dpt o q ++ way q m ++ t := h
      rw [List.append_assoc, List.append_assoc] at h'
      obtain ⟨rfl, h2⟩ := dpt_inj h'
      obtain ⟨e, h3⟩ := ih m p r t (by simpa using hl) h2
      exact ⟨by rw [e], h3⟩

/-- A segment that is right as far as its form goes. -/
def SegR (s : Seg) : Prop := (1 ≤ s.k ∧ s.k ≤ 3) ∧ (s.k < 2 → s.b = ⟨0, 0⟩) ∧ (s.k < 3 → s.c = ⟨0, 0⟩)

theorem seg_pts {s : Seg} (h : SegR s) : (ptsOf s).length = s.k.toNat := by
  unfold ptsOf Seg.pts
  have := h.1
  rw [List.length_take]
  simp
  omega

theorem seg_inj {s t : Seg} (hs : SegR s) (ht : SegR t) (hk : s.k = t.k) (h : ptsOf s = ptsOf t) : s = t := by
  obtain ⟨k, a, b, c⟩ := s
  obtain ⟨k', a', b', c'⟩ := t
  have e : k = k' := hk
  subst e
  obtain ⟨h1, h2, h3⟩ := hs
  obtain ⟨-, g2, g3⟩ := ht
  simp only at h1 h2 h3 g2 g3
  have hk3 : k = 1 ∨ k = 2 ∨ k = 3 := by omega
  unfold ptsOf Seg.pts at h
  rcases hk3 with rfl | rfl | rfl
  · have e1 := h2 (by omega); have e2 := h3 (by omega); have e3 := g2 (by omega); have e4 := g3 (by omega)
    have e5 : a = a' := by simpa using h
    rw [e1, e2, e3, e4, e5]
  · have e2 := h3 (by omega); have e4 := g3 (by omega)
    have e5 : a = a' ∧ b = b' := by simpa using h
    rw [e2, e4, e5.1, e5.2]
  · have e5 : a = a' ∧ b = b' ∧ c = c' := by simpa using h
    rw [e5.1, e5.2.1, e5.2.2]

theorem chunk_inj : ∀ (l m : List Seg), (∀ s ∈ l, SegR s) → (∀ s ∈ m, SegR s) → l.map Seg.k = m.map Seg.k → l.flatMap ptsOf = m.flatMap ptsOf → l = m := by
  intro l
  induction l with
  | nil =>
    intro m _ _ hk _
    cases m with
    | nil => rfl
    | cons x y => simp at hk
  | cons s l ih =>
    intro m hl hm hk h
    cases m with
    | nil => simp at hk
    | cons t m =>
      simp only [List.map_cons, List.cons.injEq] at hk
      rw [List.flatMap_cons, List.flatMap_cons] at h
      have hs := hl s (by simp)
      have ht := hm t (by simp)
      have hh := List.append_inj h (by rw [seg_pts hs, seg_pts ht, hk.1])
      rw [seg_inj hs ht hk.1 hh.1, ih m (fun x hx => hl x (by simp [hx])) (fun x hx => hm x (by simp [hx])) hk.2 hh.2]

theorem chunk_len : ∀ (l m : List Seg), (∀ s ∈ l, SegR s) → (∀ s ∈ m, SegR s) → l.map Seg.k = m.map Seg.k → (l.flatMap ptsOf).length = (m.flatMap ptsOf).length := by
  intro l
  induction l with
  | nil =>
    intro m _ _ hk
    cases m with
    | nil => rfl
    | cons x y => simp at hk
  | cons s l ih =>
    intro m hl hm hk
    cases m with
    | nil => simp at hk
    | cons t m =>
      simp only [List.map_cons, List.cons.injEq] at hk
      rw [List.flatMap_cons, List.flatMap_cons, List.length_append, List.length_append, seg_pts (hl s (by simp)), seg_pts (hm t (by simp)), hk.1, ih m (fun x hx => hl x (by simp [hx])) (fun x hx => hm x (by simp [hx])) hk.2]

theorem kinds_cons (k : Int) (n : Nat) (r : List (Int × Nat)) : kindsOf ((k, n) :: r) = List.replicate n k ++ kindsOf r := rfl

/-- What a run tells of the segments that it is of. -/
theorem run_take {k : Int} {n : Nat} {r : List (Int × Nat)} {l : List Seg} (h : kindsOf ((k, n) :: r) = l.map Seg.k) : (l.take n).map Seg.k = List.replicate n k ∧ (l.drop n).map Seg.k = kindsOf r := by
  rw [kinds_cons] at h
  rw [List.map_take, List.map_drop, ← h]
  simp

theorem run_kind {k : Int} {n : Nat} {r : List (Int × Nat)} {l : List Seg} (hn : 1 ≤ n) (hl : ∀ s ∈ l, SegR s) (h : kindsOf ((k, n) :: r) = l.map Seg.k) : 1 ≤ k ∧ k ≤ 3 := by
  have h1 := (run_take h).1
  have hm : k ∈ (l.take n).map Seg.k := by rw [h1]; simp; omega
  obtain ⟨s, hs, rfl⟩ := List.mem_map.1 hm
  exact (hl s (List.mem_of_mem_take hs)).1

theorem runsB_inj : ∀ (rs rs' : List (Int × Nat)) (q : Pt) (l m : List Seg) (r t : List Nat), rs.length = rs'.length → (∀ x ∈ rs, 1 ≤ x.2) → (∀ x ∈ rs', 1 ≤ x.2) → (∀ s ∈ l, SegR s) → (∀ s ∈ m, SegR s) → kindsOf rs = l.map Seg.k → kindsOf rs' = m.map Seg.k →
    runsB q rs l ++ r = runsB q rs' m ++ t → l = m ∧ r = t := by
  intro rs
  induction rs with
  | nil =>
    intro rs' q l m r t hl _ _ _ _ k1 k2 h
    cases rs' with
    | nil =>
      have e1 : l = [] := by simpa [kindsOf] using k1.symm
      have e2 : m = [] := by simpa [kindsOf] using k2.symm
      rw [e1, e2]
      exact ⟨rfl, h⟩
    | cons x y => simp at hl
  | cons x rs ih =>
    intro rs' q l m r t hl p1 p2 s1 s2 k1 k2 h
    cases rs' with
    | nil => simp at hl
    | cons y rs' =>
      obtain ⟨k, n⟩ := x
      obtain ⟨k', n'⟩ := y
      have n1 : 1 ≤ n := p1 (k, n) (by simp)
      have n2 : 1 ≤ n' := p2 (k', n') (by simp)
      have b1 := run_kind n1 s1 k1
      have b2 := run_kind n2 s2 k2
      have h' : (num (n * 4 + k) ++ way q ((l.take n).flatMap ptsOf) ++ runsB (lastOf q ((l.take n).flatMap ptsOf)) rs (l.drop n)) ++ r = (num (n' * 4 + k') ++ way q ((m.take n').flatMap ptsOf) ++ runsB (lastOf q ((m.take n').flatMap ptsOf)) rs' (m.drop n')) ++ t := h
      simp only [List.append_assoc] at h'
      obtain ⟨e, g⟩ := num_inj (by omega) (by omega) h'
      clear h h'
      obtain rfl : k = k' := by omega
      obtain rfl : n = n' := by omega
      have t1 := run_take k1
      have t2 := run_take k2
      have q1 : ∀ s ∈ l.take n, SegR s := fun s hs => s1 s (List.mem_of_mem_take hs)
      have q2 : ∀ s ∈ m.take n, SegR s := fun s hs => s2 s (List.mem_of_mem_take hs)
      have kk : (l.take n).map Seg.k = (m.take n).map Seg.k := by rw [t1.1, t2.1]
      obtain ⟨e1, h'⟩ := way_inj _ _ _ _ _ (chunk_len _ _ q1 q2 kk) g
      have e2 := chunk_inj _ _ q1 q2 kk e1
      rw [e2] at h'
      obtain ⟨e3, h2⟩ := ih rs' _ _ _ _ _ (by simpa using hl) (fun x hx => p1 x (by simp [hx])) (fun x hx => p2 x (by simp [hx])) (fun s hs => s1 s (List.mem_of_mem_drop hs)) (fun s hs => s2 s (List.mem_of_mem_drop hs)) t1.2.symm t2.2.symm h'
      refine ⟨?_, h2⟩
      rw [← List.take_append_drop n l, ← List.take_append_drop n m, e2, e3]

def PathR (p : Path) : Prop := ∀ s ∈ p.segs, SegR s
def SameP (p q : Path) : Prop := p.st = q.st ∧ p.cl = q.cl ∧ p.segs = q.segs

theorem path_inj {p q : Path} {r t : List Nat} (hp : PathR p) (hq : PathR q) (h : path p ++ r = path q ++ t) : SameP p q ∧ r = t := by
  unfold path at h
  simp only [List.append_assoc] at h
  obtain ⟨e, h⟩ := num_inj (by split <;> omega) (by split <;> omega) h
  obtain ⟨e1, h⟩ := pt_inj h
  have i1 := runsOf_is (p.segs.map Seg.k)
  have i2 := runsOf_is (q.segs.map Seg.k)
  have hc : p.cl = q.cl ∧ (runs p.segs).length = (runs q.segs).length := by
    cases hc1 : p.cl <;> cases hc2 : q.cl <;> rw [hc1, hc2] at e <;> simp at e ⊢ <;> omega
  rw [e1] at h
  obtain ⟨e2, h⟩ := runsB_inj _ _ _ _ _ _ _ hc.2 i1.2.1 i2.2.1 hp hq i1.2.2 i2.2.2 h
  exact ⟨⟨e1, hc.1, e2⟩, h⟩

def All2 {α : Type} (E : α → α → Prop) : List α → List α → Prop
  | [], [] => True
  | x :: l, y :: m => E x y ∧ All2 E l m
  | _, _ => False

theorem many_inj {α : Type} (f : α → List Nat) (P : α → Prop) (E : α → α → Prop) (hf : ∀ x y r t, P x → P y → f x ++ r = f y ++ t → E x y ∧ r = t) : ∀ (l m : List α) (r t : List Nat), l.length = m.length → (∀ x ∈ l, P x) → (∀ x ∈ m, P x) → l.flatMap f ++ r = m.flatMap f ++ t → All2 E l m ∧ r = t := by
  intro l
  induction l with
  | nil =>
    intro m r t hl _ _ h
    cases m with
    | nil => exact ⟨trivial, h⟩
    | cons x y => simp at hl
  | cons x l ih =>
    intro m r t hl h1 h2 h
    cases m with
    | nil => simp at hl
    | cons y m =>
      rw [List.flatMap_cons, List.flatMap_cons, List.append_assoc, List.append_assoc] at h
      obtain ⟨e, h⟩ := hf x y _ _ (h1 x (by simp)) (h2 y (by simp)) h
      obtain ⟨e', h⟩ := ih m r t (by simpa using hl) (fun z hz => h1 z (by simp [hz])) (fun z hz => h2 z (by simp [hz])) h
      exact ⟨⟨e, e'⟩, h⟩

def PaintR (p : Paint) : Prop := 0 ≤ p.a ∧ 0 ≤ p.b ∧ ((p.k = 0 ∧ p.b = 0 ∧ p.p = ⟨0, 0⟩ ∧ p.q = ⟨0, 0⟩) ∨ p.k = 1 ∨ (p.k = 2 ∧ 0 ≤ p.q.x ∧ p.q.y = 0))

theorem paint_inj {p q : Paint} {r t : List Nat} (hp : PaintR p) (hq : PaintR q) (hk : p.k = q.k) (h : paint p ++ r = paint q ++ t) : p = q ∧ r = t := by
  obtain ⟨k, a, b, u, v⟩ := p
  obtain ⟨k', a', b', u', v'⟩ := q
  have e : k = k' := hk
  subst e
  obtain ⟨a0, b0, hp⟩ := hp
  obtain ⟨a1, b1, hq⟩ := hq
  simp only at a0 b0 a1 b1 hp hq
  unfold paint at h
  simp only [List.append_assoc] at h
  obtain ⟨ea, g⟩ := num_inj a0 a1 h
  subst ea
  clear h
  have h := g
  clear g
  rcases hp with ⟨rfl, rfl, rfl, rfl⟩ | rfl | ⟨rfl, h0, h1⟩
  · obtain ⟨-, rfl, rfl, rfl⟩ : (0 : Int) = 0 ∧ b' = 0 ∧ u' = ⟨0, 0⟩ ∧ v' = ⟨0, 0⟩ := by
      rcases hq with h | h | h
      · exact h
      · omega
      · omega
    exact ⟨rfl, by simpa using h⟩
  · have h' : num b ++ (pt u ++ pt v) ++ r = num b' ++ (pt u' ++ pt v') ++ t := by simpa using h
    simp only [List.append_assoc] at h'
    obtain ⟨e1, g1⟩ := num_inj b0 b1 h'
    obtain ⟨e2, g2⟩ := pt_inj g1
    obtain ⟨e3, g3⟩ := pt_inj g2
    exact ⟨by rw [e1, e2, e3], g3⟩
  · obtain ⟨h2, h3⟩ : 0 ≤ v'.x ∧ v'.y = 0 := by
      rcases hq with h | h | h
      · omega
      · omega
      · exact h.2
    have h' : num b ++ (pt u ++ num v.x) ++ r = num b' ++ (pt u' ++ num v'.x) ++ t := by simpa using h
    simp only [List.append_assoc] at h'
    obtain ⟨e1, g1⟩ := num_inj b0 b1 h'
    obtain ⟨e2, g2⟩ := pt_inj g1
    obtain ⟨e, g3⟩ := num_inj h0 h2 g2
    refine ⟨?_, g3⟩
    obtain ⟨_, _⟩ := v
    obtain ⟨_, _⟩ := v'
    simp at h1 h3 e
    rw [h1, h3, e, e1, e2]

structure CmdR (c : Cmd) : Prop where
  k : c.k = 1 ∨ c.k = 2
  r : c.r = 0 ∨ c.r = 1
  wd : 0 ≤ c.wd ∧ (c.k = 1 → c.wd = 0)
  pn : PaintR c.pn
  paths : ∀ p ∈ c.paths, PathR p
def SameC (c d : Cmd) : Prop := c.k = d.k ∧ c.r = d.r ∧ c.wd = d.wd ∧ c.pn = d.pn ∧ All2 SameP c.paths d.paths

theorem cmd_inj {c d : Cmd} {r t : List Nat} (hc : CmdR c) (hd : CmdR d) (h : cmd c ++ r = cmd d ++ t) : SameC c d ∧ r = t := by
  have k1 := hc.k
  have k2 := hd.k
  have r1 := hc.r
  have r2 := hd.r
  have w1 := hc.wd
  have w2 := hd.wd
  have p1 : c.pn.k = 0 ∨ c.pn.k = 1 ∨ c.pn.k = 2 := by rcases hc.pn.2.2 with h | h | h; exact .inl h.1; exact .inr (.inl h); exact .inr (.inr h.1)
  have p2 : d.pn.k = 0 ∨ d.pn.k = 1 ∨ d.pn.k = 2 := by rcases hd.pn.2.2 with h | h | h; exact .inl h.1; exact .inr (.inl h); exact .inr (.inr h.1)
  unfold cmd at h
  simp only [List.append_assoc] at h
  obtain ⟨e, h⟩ := num_inj (by omega) (by omega) h
  have ek : c.k = d.k := by omega
  have er : c.r = d.r := by omega
  have ep : c.pn.k = d.pn.k := by omega
  have hw : c.wd = d.wd ∧ paint c.pn ++ (num c.paths.length ++ (c.paths.flatMap path ++ r)) = paint d.pn ++ (num d.paths.length ++ (d.paths.flatMap path ++ t)) := by
    by_cases h2 : d.k = 2
    · rw [ek, if_pos (by simp [h2]), if_pos (by simp [h2])] at h
      exact num_inj w1.1 w2.1 h
    · rw [ek, if_neg (by simp [h2]), if_neg (by simp [h2])] at h
      exact ⟨by rw [w1.2 (by omega), w2.2 (by omega)], by simpa using h⟩
  obtain ⟨ew, h⟩ := hw
  obtain ⟨en, h⟩ := paint_inj hc.pn hd.pn ep h
  obtain ⟨el, h⟩ := num_inj (by omega) (by omega) h
  obtain ⟨ea, h⟩ := many_inj path PathR SameP (fun _ _ _ _ h1 h2 h => path_inj h1 h2 h) _ _ _ _ (by omega) hc.paths hd.paths h
  exact ⟨⟨ek, er, ew, en, ea⟩, h⟩

def ColR (c : Col) : Prop := 0 ≤ c.r ∧ 0 ≤ c.g ∧ 0 ≤ c.b ∧ 0 ≤ c.a

theorem col_inj {c d : Col} {r t : List Nat} (hc : ColR c) (hd : ColR d) (h : col c ++ r = col d ++ t) : c = d ∧ r = t := by
  obtain ⟨a1, a2, a3, a4⟩ := c
  obtain ⟨b1, b2, b3, b4⟩ := d
  obtain ⟨h1, h2, h3, h4⟩ := hc
  obtain ⟨g1, g2, g3, g4⟩ := hd
  simp only at h1 h2 h3 h4 g1 g2 g3 g4
  simp [col] at h
  refine ⟨?_, h.2.2.2.2⟩
  congr 1 <;> omega

theorem all2_eq {α : Type} : ∀ (l m : List α), All2 (· = ·) l m → l = m := by
  intro l
  induction l with
  | nil => intro m h; cases m with | nil => rfl | cons x y => exact absurd h id
  | cons x l ih => intro m h; cases m with | nil => exact absurd h id | cons y m => rw [h.1, ih m h.2]

structure IconR (i : Icon) : Prop where
  w : 0 ≤ i.w
  h : 0 ≤ i.h
  s : 0 ≤ i.s
  cols : ∀ c ∈ i.cols, ColR c
  cmds : ∀ c ∈ i.cmds, CmdR c
def SameI (i j : Icon) : Prop := i.w = j.w ∧ i.h = j.h ∧ i.s = j.s ∧ i.cols = j.cols ∧ All2 SameC i.cmds j.cmds

theorem icon_inj {i j : Icon} {r t : List Nat} (hi : IconR i) (hj : IconR j) (h : icon i ++ r = icon j ++ t) : SameI i j ∧ r = t := by
  unfold icon at h
  simp only [List.append_assoc] at h
  have h := List.append_cancel_left h
  obtain ⟨e1, h⟩ := num_inj hi.w hj.w h
  obtain ⟨e2, h⟩ := num_inj hi.h hj.h h
  obtain ⟨e3, h⟩ := num_inj hi.s hj.s h
  obtain ⟨e4, h⟩ := num_inj (by omega) (by omega) h
  obtain ⟨e5, h⟩ := many_inj col ColR (· = ·) (fun _ _ _ _ h1 h2 h => col_inj h1 h2 h) _ _ _ _ (by omega) hi.cols hj.cols h
  obtain ⟨e6, h⟩ := num_inj (by omega) (by omega) h
  obtain ⟨e7, h⟩ := many_inj cmd CmdR SameC (fun _ _ _ _ h1 h2 h => cmd_inj h1 h2 h) _ _ _ _ (by omega) hi.cmds hj.cmds h
  exact ⟨⟨e1, e2, e3, all2_eq _ _ e5, e7⟩, h⟩

theorem path_same {p q : Path} (h : SameP p q) : path p = path q := by unfold path; rw [h.1, h.2.1, h.2.2]
theorem flat_same {α : Type} (f : α → List Nat) (E : α → α → Prop) (hf : ∀ x y, E x y → f x = f y) : ∀ (l m : List α), All2 E l m → l.length = m.length ∧ l.flatMap f = m.flatMap f := by
  intro l
  induction l with
  | nil => intro m h; cases m with | nil => exact ⟨rfl, rfl⟩ | cons x y => exact absurd h id
  | cons x l ih => intro m h; cases m with | nil => exact absurd h id | cons y m => rw [List.flatMap_cons, List.flatMap_cons, hf _ _ h.1, (ih m h.2).2, List.length_cons, List.length_cons, (ih m h.2).1]; exact ⟨rfl, rfl⟩
theorem cmd_same {c d : Cmd} (h : SameC c d) : cmd c = cmd d := by
  obtain ⟨h1, h2, h3, h4, h5⟩ := h
  have := flat_same path SameP (fun _ _ h => path_same h) _ _ h5
  unfold cmd
  rw [h1, h2, h3, h4, this.1, this.2]
theorem icon_same {i j : Icon} (h : SameI i j) : icon i = icon j := by
  obtain ⟨h1, h2, h3, h4, h5⟩ := h
  have := flat_same cmd SameC (fun _ _ h => cmd_same h) _ _ h5
  unfold icon
  rw [h1, h2, h3, h4, this.1, this.2]

end EP
end Go.Proofs.YtofmbedjbnbjlaaDoor

/-
  A right icon's bytes are read as it was.
-/
import Derived.Test.YtbfhehdinkbioaaDoorDecPlain
namespace Go.Proofs.YtbfhehdinkbioaaDoor
namespace DP
open IC

def St.on (s : St) (n : Nat) : St := { s with at' := n }

/-- Wherever these bytes stand: this is read of them, and nothing of what follows. -/
def Reads {α : Type} (p : List Nat → P α) (x : List Nat) (v : α) (s s' : St) : Prop := ∀ pre rest, p (pre ++ (x ++ rest)) (s.on pre.length) = .ok (v, s'.on (pre.length + x.length))

theorem reads_bind {α β : Type} {p : List Nat → P α} {f : List Nat → α → P β} {x y : List Nat} {v : α} {u : β} {s s1 s2 : St} (h1 : Reads p x v s s1) (h2 : Reads (fun b => f b v) y u s1 s2) : Reads (fun b => andThen (p b) (f b)) (x ++ y) u s s2 := by
  intro pre rest
  have e1 := h1 pre (y ++ rest)
  have e2 := h2 (pre ++ x) rest
  rw [List.append_assoc x y rest]
  show andThen _ _ _ = _
  rw [andThen_ok e1]
  simp only [List.append_assoc, List.length_append] at e2 ⊢
  rw [e2, Nat.add_assoc]

theorem reads_ret {α : Type} (v : α) (s : St) : Reads (fun _ => ret v) [] v s s := by intro pre rest; simp [ret]

theorem reads_map {α β : Type} {p : List Nat → P α} {g : α → β} {x : List Nat} {v : α} {u : β} {s s1 : St} (h1 : Reads p x v s s1) (h2 : g v = u) : Reads (fun b => andThen (p b) (fun a => ret (g a))) x u s s1 := by
  intro pre rest
  show andThen _ _ _ = _
  rw [andThen_ok (h1 pre rest), h2]
  rfl

theorem reads_num (rule : Nat → Option Nat) (n : Nat) (s : St) (h : rule n = none) (hn : n < 18446744073709551616) : Reads (fun b => num b rule) (WP.enc n) n s s := by
  intro pre rest
  have e : (pre ++ (WP.enc n ++ rest)).drop (s.on pre.length).at' = WP.enc n ++ rest := by simp [St.on]
  show num _ _ _ = _
  unfold num
  rw [e, WP.dec_enc n 0 0 rest (by have := WP.sz_le10 hn; omega) (by simpa using hn) (.inr rfl)]
  simp [h, St.on, WP.sz]

theorem zag_zig (z : Int) : zag (EP.zig z) = z := by
  unfold zag EP.zig
  split <;> split <;> omega

theorem zig_lt (z : Int) (h : -4000000000000000000 ≤ z ∧ z ≤ 4000000000000000000) : EP.zig z < 18446744073709551616 := by
  unfold EP.zig
  split <;> omega

theorem reads_part (z ahead : Int) (s : St) (hz : -s.far ≤ z ∧ z ≤ s.far) (hb : -s.far ≤ ahead ∧ ahead ≤ s.far) (hf : s.far ≤ 1048576) : Reads (fun b => part b ahead) (EP.zg (z - ahead)) z s s := by
  have h1 := reads_num (partRule s.far ahead) (EP.zig (z - ahead)) s (by unfold partRule; rw [zag_zig, if_neg (by omega)]) (zig_lt _ (by omega))
  have h2 := reads_map (g := fun n => ahead + zag n) (u := z) h1 (by show ahead + zag _ = z; rw [zag_zig]; omega)
  intro pre rest
  exact h2 pre rest

theorem reads_point (q p : Pt) (s : St) (hp : reach s.far p = true) (hq : reach s.far q = true) (hf : s.far ≤ 1048576) : Reads (fun b => point b q) (EP.dpt q p) p s s := by
  simp [reach, within] at hp hq
  exact reads_bind (reads_part p.x q.x s hp.1 hq.1 hf) (reads_map (g := fun y => (⟨p.x, y⟩ : Pt)) (reads_part p.y q.y s hp.2 hq.2 hf) rfl)

theorem way_append (a : List Pt) : ∀ (q : Pt) (c : List Pt), EP.way q (a ++ c) = EP.way q a ++ EP.way (EP.lastOf q a) c := by
  induction a with
  | nil => intro q c; rfl
  | cons p r ih => intro q c; simp only [List.cons_append, EP.way, EP.lastOf]; rw [ih, List.append_assoc]
theorem last_append (a : List Pt) : ∀ (q : Pt) (c : List Pt), EP.lastOf q (a ++ c) = EP.lastOf (EP.lastOf q a) c := by
  induction a with
  | nil => intro q c; rfl
  | cons p r ih => intro q c; simp only [List.cons_append, EP.lastOf]; rw [ih]
theorem last_reach (far : Int) (a : List Pt) : ∀ (q : Pt), reach far q = true → (∀ p ∈ a, reach far p = true) → reach far (EP.lastOf q a) = true := by
  induction a with
  | nil => intro q h _; exact h
  | cons p r ih => intro q h h2; exact ih p (h2 p (by simp)) (fun x hx => h2 x (by simp [hx]))

theorem reads_pts (s : St) (hf : s.far ≤ 1048576) (l : List Pt) : ∀ (acc : List Pt) (q : Pt), reach s.far q = true → (∀ p ∈ l, reach s.far p = true) → Reads (fun b => pts b l.length acc q) (EP.way q l) (acc ++ l, EP.lastOf q l) s s := by
  induction l with
  | nil => intro acc q _ _; rw [List.append_nil]; exact reads_ret _ _
  | cons p r ih =>
    intro acc q hq hl
    have h := ih (acc ++ [p]) p (hl p (by simp)) (fun x hx => hl x (by simp [hx]))
    rw [List.append_assoc] at h
    exact reads_bind (reads_point q p s (hl p (by simp)) hq hf) h

theorem first_zero {α : Type} (f : α → Nat) : ∀ (l : List α), firstOf f l = 0 → ∀ x ∈ l, f x = 0 := by
  intro l
  induction l with
  | nil => intro _ x hx; simp at hx
  | cons y r ih =>
    intro h x hx
    unfold firstOf at h
    split at h
    · rcases List.mem_cons.1 hx with rfl | hx
      · assumption
      · exact ih h x hx
    · exact absurd h (by assumption)

theorem zero_pt {p : Pt} (h : IC.zero p = true) : p = ⟨0, 0⟩ := by
  obtain ⟨x, y⟩ := p
  unfold IC.zero at h
  simp at h
  rw [h.1, h.2]

/-- A segment that Check takes. -/
theorem seg_is {far : Int} {g : Seg} (h : chkSeg far g = 0) : ∃ k : Nat, 1 ≤ k ∧ k ≤ 3 ∧ g.k = k ∧ (EP.ptsOf g).length = k ∧ (∀ p ∈ EP.ptsOf g, reach far p = true) ∧ segOf k (EP.ptsOf g) = g := by
  obtain ⟨k, a, b, c⟩ := g
  unfold chkSeg at h
  split at h
  · cases h
  rename_i h1
  split at h
  · cases h
  rename_i h2
  split at h
  · cases h
  rename_i h3
  simp only [Bool.not_eq_true, Bool.not_eq_false'] at h1 h2 h3
  have hk : k = 1 ∨ k = 2 ∨ k = 3 := by simp [within] at h1; omega
  rcases hk with rfl | rfl | rfl
  · simp [Seg.pts] at h2 h3
    exact ⟨1, by omega, by omega, rfl, rfl, by simp [EP.ptsOf, Seg.pts, h2], by simp [EP.ptsOf, Seg.pts, segOf, zero_pt h3.1, zero_pt h3.2]⟩
  · simp [Seg.pts] at h2 h3
    exact ⟨2, by omega, by omega, rfl, rfl, by simp [EP.ptsOf, Seg.pts, h2], by simp [EP.ptsOf, Seg.pts, segOf, zero_pt h3]⟩
  · simp [Seg.pts] at h2 h3
    exact ⟨3, by omega, by omega, rfl, rfl, by simp [EP.ptsOf, Seg.pts, h2], by simp [EP.ptsOf, Seg.pts, segOf]⟩

def St.more (s : St) (n : Nat) : St := { s with pts := s.pts + n }
theorem more_more (s : St) (a b : Nat) : (s.more a).more b = s.more (a + b) := by simp [St.more, Nat.add_assoc]

theorem reads_seg (s : St) (hf : s.far ≤ 1048576) (g : Seg) (k : Nat) (q : Pt) (hg : chkSeg s.far g = 0) (hk : g.k = k) (hq : reach s.far q = true) : Reads (fun b => seg b k q) (EP.way q (EP.ptsOf g)) (g, EP.lastOf q (EP.ptsOf g)) s (s.more k) := by
  obtain ⟨k', h1, h2, h3, h4, h5, h6⟩ := seg_is hg
  have : k' = k := by omega
  subst this
  have h := reads_pts s hf (EP.ptsOf g) [] q hq h5
  rw [h4, List.nil_append] at h
  intro pre rest
  show andThen _ _ _ = _
  rw [andThen_ok (h pre rest)]
  show Except.ok ((segOf k' (EP.ptsOf g), EP.lastOf q (EP.ptsOf g)), _) = _
  rw [h6]
  rfl

theorem reads_segs (far : Int) (hf : far ≤ 1048576) (k : Nat) (l : List Seg) : ∀ (s : St) (acc : List Seg) (q : Pt), s.far = far → (∀ g ∈ l, chkSeg far g = 0 ∧ g.k = k) → reach far q = true →
    Reads (fun b => segs b k l.length acc q) (EP.way q (l.flatMap EP.ptsOf)) (acc ++ l, EP.lastOf q (l.flatMap EP.ptsOf)) s (s.more (k * l.length)) := by
  induction l with
  | nil => intro s acc q _ _ _; rw [List.append_nil]; exact reads_ret _ _
  | cons g r ih =>
    intro s acc q hs hl hq
    have hg := hl g (by simp)
    obtain ⟨k', h1, h2, h3, h4, h5, h6⟩ := seg_is hg.1
    have e1 := reads_seg s (by omega) g k q (by rw [hs]; exact hg.1) hg.2 (by rw [hs]; exact hq)
    have e2 := ih (s.more k) (acc ++ [g]) (EP.lastOf q (EP.ptsOf g)) hs (fun x hx => hl x (by simp [hx])) (last_reach far _ q hq h5)
    rw [List.append_assoc, more_more] at e2
    rw [List.flatMap_cons, way_append, last_append, List.length_cons, Nat.mul_add, Nat.mul_one, Nat.add_comm (k * r.length)]
    exact reads_bind e1 e2

theorem segs_pts_eq (k : Nat) (far : Int) (l : List Seg) (h : ∀ g ∈ l, chkSeg far g = 0 ∧ g.k = k) : sumOf segPts l = (k * l.length : Nat) := by
  induction l with
  | nil => simp [sumOf]
  | cons g r ih =>
    have hg := h g (by simp)
    obtain ⟨k', h1, h2, h3, -⟩ := seg_is hg.1
    have e : segPts g = k := by unfold segPts within; rw [hg.2]; simp; omega
    simp only [sumOf]
    rw [ih (fun x hx => h x (by simp [hx])), e, List.length_cons, Nat.mul_add, Nat.mul_one]
    omega

theorem sumOf_append {α : Type} (f : α → Int) (a c : List α) : sumOf f (a ++ c) = sumOf f a + sumOf f c := by
  induction a with
  | nil => simp [sumOf]
  | cons x r ih => simp only [List.cons_append, sumOf]; rw [ih]; omega

theorem sum_nonneg (l : List Seg) : 0 ≤ sumOf segPts l := by
  induction l with
  | nil => simp [sumOf]
  | cons g r ih => have := segPts_le g; simp only [sumOf]; omega

theorem apart_tail {x : Int × Nat} {r : List (Int × Nat)} (h : EP.Apart (x :: r)) : EP.Apart r := by
  cases r with
  | nil => trivial
  | cons y t => exact h.2

theorem reads_runs (far : Int) (hf : far ≤ 1048576) (rs : List (Int × Nat)) : ∀ (s : St) (l acc : List Seg) (q : Pt) (kd : Nat) (m : Nat), s.far = far → EP.kindsOf rs = l.map Seg.k → EP.Apart (((kd : Int), m) :: rs) → (∀ r ∈ rs, 1 ≤ r.2) → (∀ g ∈ l, chkSeg far g = 0) → reach far q = true →
    acc.length + l.length ≤ 400 → (s.pts : Int) + sumOf segPts l ≤ 4000 →
    Reads (fun b => runs b rs.length kd acc q) (EP.runsB q rs l) (acc ++ l) s (s.more (sumOf segPts l).toNat) := by
  induction rs with
  | nil =>
    intro s l acc q kd m _ hk _ _ _ _ _ _
    have : l = [] := by cases l with
      | nil => rfl
      | cons g r => simp [EP.kindsOf] at hk
    subst this
    rw [List.append_nil]
    exact reads_ret _ _
  | cons x r ih =>
    intro s l acc q kd m hs hk hA h1 hl hq h400 h4000
    obtain ⟨k, n⟩ := x
    have hn : 1 ≤ n := h1 (k, n) (by simp)
    have hk' : EP.kindsOf ((k, n) :: r) = List.replicate n k ++ EP.kindsOf r := by simp [EP.kindsOf]
    rw [hk'] at hk
    have hlen : n ≤ l.length := by
      have := congrArg List.length hk
      simp at this
      omega
    obtain ⟨a, c, rfl, ha⟩ : ∃ a c, l = a ++ c ∧ a.length = n := ⟨l.take n, l.drop n, by simp, by simp; omega⟩
    rw [List.map_append] at hk
    have hk2 := List.append_inj hk (by simp [ha])
    have hal : ∀ g ∈ a, g.k = k := by
      intro g hg
      have : g.k ∈ a.map Seg.k := List.mem_map_of_mem hg
      rw [← hk2.1] at this
      exact (List.mem_replicate.1 this).2
    obtain ⟨g0, hg0⟩ : ∃ g0, g0 ∈ a := by
      cases a with
      | nil => simp at ha; omega
      | cons g t => exact ⟨g, by simp⟩
    obtain ⟨k', k1, k3, kk, -⟩ := seg_is (hl g0 (by simp [hg0]))
    have kk' : k = k' := by rw [← hal g0 hg0]; exact kk
    subst kk'
    have hal' : ∀ g ∈ a, chkSeg far g = 0 ∧ g.k = k' := fun g hg => ⟨hl g (by simp [hg]), hal g hg⟩
    have hsum := segs_pts_eq k' far a hal'
    rw [sumOf_append, hsum, ha] at h4000
    have hc0 := sum_nonneg c
    simp only [List.length_append] at h400
    have x4 : (n * 4 + k') % 4 = k' := by omega
    have x5 : (n * 4 + k') / 4 = n := by omega
    have hkd : k' ≠ kd := fun e => hA.1 (by rw [e])
    have e1 := reads_num (runRule kd acc.length s.pts) (n * 4 + k') s (by
      unfold runRule
      rw [x4, x5, if_neg (by omega), if_neg hkd, if_neg (by omega)]) (by omega)
    have e2 := reads_segs far hf k' a s [] q hs hal' hq
    rw [ha, List.nil_append] at e2
    have e3 := ih (s.more (k' * n)) c (acc ++ a) (EP.lastOf q (a.flatMap EP.ptsOf)) k' n hs hk2.2 hA.2 (fun x hx => h1 x (by simp [hx])) (fun g hg => hl g (by simp [hg])) (last_reach far _ q hq (by
      intro p hp
      obtain ⟨g, hg, hp⟩ := List.mem_flatMap.1 hp
      obtain ⟨_, _, _, _, _, h5, _⟩ := seg_is (hl g (by simp [hg]))
      exact h5 p hp)) (by simp [ha]; omega) (by simp only [St.more]; omega)
    rw [more_more, List.append_assoc, show k' * n + (sumOf segPts c).toNat = (sumOf segPts (a ++ c)).toNat by rw [sumOf_append, hsum, ha]; omega] at e3
    have e4 := reads_bind (f := fun b x => andThen (segs b (x % 4) (x / 4) [] q) fun r' => runs b r.length (x % 4) (acc ++ r'.1) r'.2) e1 (by
      simp only [x4, x5]
      exact reads_bind e2 e3)
    have hB : EP.runsB q (((k' : Int), n) :: r) (a ++ c) = WP.enc (n * 4 + k') ++ (EP.way q (a.flatMap EP.ptsOf) ++ EP.runsB (EP.lastOf q (a.flatMap EP.ptsOf)) r c) := by
      simp only [EP.runsB, EP.num]
      rw [List.take_left' ha, List.drop_left' ha, List.append_assoc]
      congr 2
    rw [hB]
    intro pre rest
    exact e4 pre rest

end DP
end Go.Proofs.YtbfhehdinkbioaaDoor

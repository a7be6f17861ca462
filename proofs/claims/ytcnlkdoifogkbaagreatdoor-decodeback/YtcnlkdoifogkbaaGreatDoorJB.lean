import Derived.Test.YtcnlkdoifogkbaaGreatDoorDecPlain
/-
  A right icon's bytes are read as it was.
-/
namespace Go.Proofs.YtcnlkdoifogkbaaGreatDoor
namespace DP
open IC

def St.on (s : St) (n : Nat) : St := { s with at' := n }

/-- Wherever these bytes stand: this is read of them, and nothing of what follows. -/
def Reads {α : Type} (p : List Nat → P α) (x : List Nat) (v : α) (s s' : St) : Prop := ∀ pre rest, p (pre ++ (x ++ rest)) (s.on pre.length) = .ok (v, s'.on (pre.length + x.length))

theorem reads_bind {α β : Type} {p : List Nat → P α} {f : List Nat → α → P β} {x y : List Nat} {v : α} {u : β} {s s1 s2 : St} (h1 : Reads p x v s s1) (h2 : Reads (fun b => f b v) y u s1 s2) : Reads (fun b => andThen (p b) (f b)) (x ++ y) u s s2 := by
  intro pre rest
  have e1 := h1 pre (y ++ rest)
  have e2 := h2 (pre ++ x) rest
  rw [List.append_assoc x y rest]
  show andThen _ _ _ = _
  rw [andThen_ok e1]
  simp only [List.append_assoc, List.length_append] at e2 ⊢
  rw [e2, Nat.add_assoc]

theorem reads_ret {α : Type} (v : α) (s : St) : Reads (fun _ => ret v) [] v s s := by intro pre rest; simp [ret]

theorem reads_map {α β : Type} {p : List Nat → P α} {g : α → β} {x : List Nat} {v : α} {u : β} {s s1 : St} (h1 : Reads p x v s s1) (h2 : g v = u) : Reads (fun b => andThen (p b) (fun a => ret (g a))) x u s s1 := by
  intro pre rest
  show andThen _ _ _ = _
  rw [andThen_ok (h1 pre rest), h2]
  rfl

theorem reads_num (rule : Nat → Option Nat) (n : Nat) (s : St) (h : rule n = none) (hn : n < 18446744073709551616) : Reads (fun b => num b rule) (WP.enc n) n s s := by
  intro pre rest
  have e : (pre ++ (WP.enc n ++ rest)).drop (s.on pre.length).at' = WP.enc n ++ rest := by simp [St.on]
  show num _ _ _ = _
  unfold num
  rw [e, WP.dec_enc n 0 0 rest (by have := WP.sz_le10 hn; omega) (by simpa using hn) (.inr rfl)]
  simp [h, St.on, WP.sz]

theorem zag_zig (z : Int) : zag (EP.zig z) = z := by
  unfold zag EP.zig
  split <;> split <;> omega

theorem zig_lt (z : Int) (h : -4000000000000000000 ≤ z ∧ z ≤ 4000000000000000000) : EP.zig z < 18446744073709551616 := by
  unfold EP.zig
  split <;> omega

theorem reads_part (z ahead : Int) (s : St) (hz : -s.far ≤ z ∧ z ≤ s.far) (hb : -s.far ≤ ahead ∧ ahead ≤ s.far) (hf : s.far ≤ 1048576) : Reads (fun b => part b ahead) (EP.zg (z - ahead)) z s s := by
  have h1 := reads_num (partRule s.far ahead) (EP.zig (z - ahead)) s (by unfold partRule; rw [zag_zig, if_neg (by omega)]) (zig_lt _ (by omega))
  have h2 := reads_map (g := fun n => ahead + zag n) (u := z) h1 (by show ahead + zag _ = z; rw [zag_zig]; omega)
  intro pre rest
  exact h2 pre rest

theorem reads_point (q p : Pt) (s : St) (hp : reach s.far p = true) (hq : reach s.far q = true) (hf : s.far ≤ 1048576) : Reads (fun b => point b q) (EP.dpt q p) p s s := by
  simp [reach, within] at hp hq
  exact reads_bind (reads_part p.x q.x s hp.1 hq.1 hf) (reads_map (g := fun y => (⟨p.x, y⟩ : Pt)) (reads_part p.y q.y s hp.2 hq.2 hf) rfl)

theorem way_append (a : List Pt) : ∀ (q : Pt) (c : List Pt), EP.way q (a ++ c) = EP.way q a ++ EP.way (EP.lastOf q a) c := by
  induction a with
  | nil => intro q c; rfl
  | cons p r ih => intro q c; simp only [List.cons_append, EP.way, EP.lastOf]; rw [ih, List.append_assoc]
theorem last_append (a : List Pt) : ∀ (q : Pt) (c : List Pt), EP.lastOf q (a ++ c) = EP.lastOf (EP.lastOf q a) c := by
  induction a with
  | nil => intro q c; rfl
  | cons p r ih => intro q c; simp only [List.cons_append, EP.lastOf]; rw [ih]
theorem last_reach (far : Int) (a : List Pt) : ∀ (q : Pt), reach far q = true → (∀ p ∈ a, reach far p = true) → reach far (EP.lastOf q a) = true := by
  induction a with
  | nil => intro q h _; exact h
  | cons p r ih => intro q h h2; exact ih p (h2 p (by simp)) (fun x hx => h2 x (by simp [hx]))

theorem reads_pts (s : St) (hf : s.far ≤ 1048576) (l : List Pt) : ∀ (acc : List Pt) (q : Pt), reach s.far q = true → (∀ p ∈ l, reach s.far p = true) → Reads (fun b => pts b l.length acc q) (EP.way q l) (acc ++ l, EP.lastOf q l) s s := by
  induction l with
  | nil => intro acc q _ _; rw [List.append_nil]; exact reads_ret _ _
  | cons p r ih =>
    intro acc q hq hl
    have h := ih (acc ++ [p]) p (hl p (by simp)) (fun x hx => hl x (by simp [hx]))
    rw [List.append_assoc] at h
    exact reads_bind (reads_point q p s (hl p (by simp)) hq hf) h

theorem first_zero {α : Type} (f : α → Nat) : ∀ (l : List α), firstOf f l = 0 → ∀ x ∈ l, f x = 0 := by
  intro l
  induction l with
  | nil => intro _ x hx; simp at hx
  | cons y r ih =>
    intro h x hx
    unfold firstOf at h
    split at h
    · rcases List.mem_cons.1 hx with rfl | hx
      · assumption
      · exact ih h x hx
    · exact absurd h (by assumption)

theorem zero_pt {p : Pt} (h : IC.zero p = true) : p = ⟨0, 0⟩ := by
  obtain ⟨x, y⟩ := p
  unfold IC.zero at h
  simp at h
  rw [h.1, h.2]

/-- A segment that Check takes. -/
theorem seg_is {far : Int} {g : Seg} (h : chkSeg far g = 0) : ∃ k : Nat, 1 ≤ k ∧ k ≤ 3 ∧ g.k = k ∧ (EP.ptsOf g).length = k ∧ (∀ p ∈ EP.ptsOf g, reach far p = true) ∧ segOf k (EP.ptsOf g) = g := by
  obtain ⟨k, a, b, c⟩ := g
  unfold chkSeg at h
  split at h
  · cases h
  rename_i h1
  split at h
  · cases h
  rename_i h2
  split at h
  · cases h
  rename_i h3
  simp only [Bool.not_eq_true, Bool.not_eq_false'] at h1 h2 h3
  have hk : k = 1 ∨ k = 2 ∨ k = 3 := by simp [within] at h1; omega
  rcases hk with rfl | rfl | rfl
  · simp [Seg.pts] at h2 h3
    exact ⟨1, by omega, by omega, rfl, rfl, by simp [EP.ptsOf, Seg.pts, h2], by simp [EP.ptsOf, Seg.pts, segOf, zero_pt h3.1, zero_pt h3.2]⟩
  · simp [Seg.pts] at h2 h3
    exact ⟨2, by omega, by omega, rfl, rfl, by simp [EP.ptsOf, Seg.pts, h2], by simp [EP.ptsOf, Seg.pts, segOf, zero_pt h3]⟩
  · simp [Seg.pts] at h2 h3
    exact ⟨3, by omega, by omega, rfl, rfl, by simp [EP.ptsOf, Seg.pts, h2], by simp [EP.ptsOf, Seg.pts, segOf]⟩

def St.more (s : St) (n : Nat) : St := { s with pts := s.pts + n }
theorem more_more (s : St) (a b : Nat) : (s.more a).more b = s.more (a + b) := by simp [St.more, Nat.add_assoc]

theorem reads_seg (s : St) (hf : s.far ≤ 1048576) (g : Seg) (k : Nat) (q : Pt) (hg : chkSeg s.far g = 0) (hk : g.k = k) (hq : reach s.far q = true) : Reads (fun b => seg b k q) (EP.way q (EP.ptsOf g)) (g, EP.lastOf q (EP.ptsOf g)) s (s.more k) := by
  obtain ⟨k', h1, h2, h3, h4, h5, h6⟩ := seg_is hg
  have : k' = k := by omega
  subst this
  have h := reads_pts s hf (EP.ptsOf g) [] q hq h5
  rw [h4, List.nil_append] at h
  intro pre rest
  show andThen _ _ _ = _
  rw [andThen_ok (h pre rest)]
  show Except.ok ((segOf k' (EP.ptsOf g), EP.lastOf q (EP.ptsOf g)), _) = _
  rw [h6]
  rfl

theorem reads_segs (far : Int) (hf : far ≤ 1048576) (k : Nat) (l : List Seg) : ∀ (s : St) (acc : List Seg) (q : Pt), s.far = far → (∀ g ∈ l, chkSeg far g = 0 ∧ g.k = k) → reach far q = true →
    Reads (fun b => segs b k l.length acc q) (EP.way q (l.flatMap EP.ptsOf)) (acc ++ l, EP.lastOf q (l.flatMap EP.ptsOf)) s (s.more (k * l.length)) := by
  induction l with
  | nil => intro s acc q _ _ _; rw [List.append_nil]; exact reads_ret _ _
  | cons g r ih =>
    intro s acc q hs hl hq
    have hg := hl g (by simp)
    obtain ⟨k', h1, h2, h3, h4, h5, h6⟩ := seg_is hg.1
    have e1 := reads_seg s (by omega) g k q (by rw [hs]; exact hg.1) hg.2 (by rw [hs]; exact hq)
    have e2 := ih (s.more k) (acc ++ [g]) (EP.lastOf q (EP.ptsOf g)) hs (fun x hx => hl x (by simp [hx])) (last_reach far _ q hq h5)
    rw [List.append_assoc, more_more] at e2
    rw [List.flatMap_cons, way_append, last_append, List.length_cons, Nat.mul_add, Nat.mul_one, Nat.add_comm (k * r.length)]
    exact reads_bind e1 e2

theorem segs_pts_eq (k : Nat) (far : Int) (l : List Seg) (h : ∀ g ∈ l, chkSeg far g = 0 ∧ g.k = k) : sumOf segPts l = (k * l.length : Nat) := by
  induction l with
  | nil => simp [sumOf]
  | cons g r ih =>
    have hg := h g (by simp)
    obtain ⟨k', h1, h2, h3, -⟩ := seg_is hg.1
    have e : segPts g = k := by unfold segPts within; rw [hg.2]; simp; omega
    simp only [sumOf]
    rw [ih (fun x hx => h x (by simp [hx])), e, List.length_cons, Nat.mul_add, Nat.mul_one]
    omega

theorem sumOf_append {α : Type} (f : α → Int) (a c : List α) : sumOf f (a ++ c) = sumOf f a + sumOf f c := by
  induction a with
  | nil => simp [sumOf]
  | cons x r ih => simp only [List.cons_append, sumOf]; rw [ih]; omega

theorem sum_nonneg (l : List Seg) : 0 ≤ sumOf segPts l := by
  induction l with
  | nil => simp [sumOf]
  | cons g r ih => have := segPts_le g; simp only [sumOf]; omega

theorem apart_tail {x : Int × Nat} {r : List (Int × Nat)} (h : EP.Apart (x :: r)) : EP.Apart r := by
  cases r with
  | nil => trivial
  | cons y t => exact h.2

theorem reads_runs (far : Int) (hf : far ≤ 1048576) (rs : List (Int × Nat)) : ∀ (s : St) (l acc : List Seg) (q : Pt) (kd : Nat) (m : Nat), s.far = far → EP.kindsOf rs = l.map Seg.k → EP.Apart (((kd : Int), m) :: rs) → (∀ r ∈ rs, 1 ≤ r.2) → (∀ g ∈ l, chkSeg far g = 0) → reach far q = true →
    acc.length + l.length ≤ 400 → (s.pts : Int) + sumOf segPts l ≤ 4000 →
    Reads (fun b => runs b rs.length kd acc q) (EP.runsB q rs l) (acc ++ l) s (s.more (sumOf segPts l).toNat) := by
  induction rs with
  | nil =>
    intro s l acc q kd m _ hk _ _ _ _ _ _
    have : l = [] := by cases l with
      | nil => rfl
      | cons g r => simp [EP.kindsOf] at hk
    subst this
    rw [List.append_nil]
    exact reads_ret _ _
  | cons x r ih =>
    intro s l acc q kd m hs hk hA h1 hl hq h400 h4000
    obtain ⟨k, n⟩ := x
    have hn : 1 ≤ n := h1 (k, n) (by simp)
    have hk' : EP.kindsOf ((k, n) :: r) = List.replicate n k ++ EP.kindsOf r := by simp [EP.kindsOf]
    rw [hk'] at hk
    have hlen : n ≤ l.length := by
      have := congrArg List.length hk
      simp at this
      omega
    obtain ⟨a, c, rfl, ha⟩ : ∃ a c, l = a ++ c ∧ a.length = n := ⟨l.take n, l.drop n, by simp, by simp; omega⟩
    rw [List.map_append] at hk
    have hk2 := List.append_inj hk (by simp [ha])
    have hal : ∀ g ∈ a, g.k = k := by
      intro g hg
      have : g.k ∈ a.map Seg.k := List.mem_map_of_mem hg
      rw [← hk2.1] at this
      exact (List.mem_replicate.1 this).2
    obtain ⟨g0, hg0⟩ : ∃ g0, g0 ∈ a := by
      cases a with
      | nil => simp at ha; omega
      | cons g t => exact ⟨g, by simp⟩
    obtain ⟨k', k1, k3, kk, -⟩ := seg_is (hl g0 (by simp [hg0]))
    have kk' : k = k' := by rw [← hal g0 hg0]; exact kk
    subst kk'
    have hal' : ∀ g ∈ a, chkSeg far g = 0 ∧ g.k = k' := fun g hg => ⟨hl g (by simp [hg]), hal g hg⟩
    have hsum := segs_pts_eq k' far a hal'
    rw [sumOf_append, hsum, ha] at h4000
    have hc0 := sum_nonneg c
    simp only [List.length_append] at h400
    have x4 : (n * 4 + k') % 4 = k' := by omega
    have x5 : (n * 4 + k') / 4 = n := by omega
    have hkd : k' ≠ kd := fun e => hA.1 (by rw [e])
    have e1 := reads_num (runRule kd acc.length s.pts) (n * 4 + k') s (by
      unfold runRule
      rw [x4, x5, if_neg (by omega), if_neg hkd, if_neg (by omega)]) (by omega)
    have e2 := reads_segs far hf k' a s [] q hs hal' hq
    rw [ha, List.nil_append] at e2
    have e3 := ih (s.more (k' * n)) c (acc ++ a) (EP.lastOf q (a.flatMap EP.ptsOf)) k' n hs hk2.2 hA.2 (fun x hx => h1 x (by simp [hx])) (fun g hg => hl g (by simp [hg])) (last_reach far _ q hq (by
      intro p hp
      obtain ⟨g, hg, hp⟩ := List.mem_flatMap.1 hp
      obtain ⟨_, _, _, _, _, h5, _⟩ := seg_is (hl g (by simp [hg]))
      exact h5 p hp)) (by simp [ha]; omega) (by simp only [St.more]; omega)
    rw [more_more, List.append_assoc, show k' * n + (sumOf segPts c).toNat = (sumOf segPts (a ++ c)).toNat by rw [sumOf_append, hsum, ha]; omega] at e3
    have e4 := reads_bind (f := fun b x => andThen (segs b (x % 4) (x / 4) [] q) fun r' => runs b r.length (x % 4) (acc ++ r'.1) r'.2) e1 (by
      simp only [x4, x5]
      exact reads_bind e2 e3)
    have hB : EP.runsB q (((k' : Int), n) :: r) (a ++ c) = WP.enc (n * 4 + k') ++ (EP.way q (a.flatMap EP.ptsOf) ++ EP.runsB (EP.lastOf q (a.flatMap EP.ptsOf)) r c) := by
      simp only [EP.runsB, EP.num]
      rw [List.take_left' ha, List.drop_left' ha, List.append_assoc]
      congr 2
    rw [hB]
    intro pre rest
    exact e4 pre rest

end DP
end Go.Proofs.YtcnlkdoifogkbaaGreatDoor

/-
  A right icon's bytes are read as it was: paths, commands, the whole; one byte more is told.
-/
namespace Go.Proofs.YtcnlkdoifogkbaaGreatDoor
namespace DP
open IC

def barePath (p : Path) : Path := { p with vs := nov }
def bareCmd (c : Cmd) : Cmd := { c with vp := nov, paths := c.paths.map barePath }
/-- An icon without its lists' handles. -/
def bare (i : Icon) : Icon := { i with vc := nov, vm := nov, cmds := i.cmds.map bareCmd }

theorem kinds_len (rs : List (Int × Nat)) (h : ∀ r ∈ rs, 1 ≤ r.2) : rs.length ≤ (EP.kindsOf rs).length := by
  induction rs with
  | nil => simp
  | cons x r ih =>
    have := ih (fun y hy => h y (by simp [hy]))
    have h1 := h x (by simp)
    simp [EP.kindsOf] at this ⊢
    omega

theorem within_is {n lo hi : Int} (h : within n lo hi = true) : lo ≤ n ∧ n ≤ hi := by unfold within at h; simpa using h

theorem reads_pt (p : Pt) (s : St) (hp : reach s.far p = true) (hf : 0 ≤ s.far ∧ s.far ≤ 1048576) : Reads (fun b => point b ⟨0, 0⟩) (EP.pt p) p s s := by
  have h := reads_point ⟨0, 0⟩ p s hp (by simp [reach, within]; omega) hf.2
  have e : EP.dpt ⟨0, 0⟩ p = EP.pt p := by simp [EP.dpt, EP.pt]
  rwa [e] at h

theorem reads_path (s : St) (k : Int) (hk : s.cl = decide (k = 2)) (hk2 : k = 1 ∨ k = 2) (hf : 0 ≤ s.far ∧ s.far ≤ 1048576) (p : Path) (hp : chkOne s.far k p = 0) (h4 : (s.pts : Int) + pathPts p ≤ 4000) : Reads (fun b => path b) (EP.path p) (barePath p) s (s.more (pathPts p).toNat) := by
  unfold chkOne at hp
  split at hp
  · cases hp
  rename_i hcl
  unfold chkPath at hp
  split at hp
  · cases hp
  rename_i h1
  split at hp
  · cases hp
  rename_i h2
  split at hp
  · cases hp
  rename_i h3
  simp only [Bool.not_eq_true, Bool.not_eq_false'] at h3
  have hl := first_zero _ _ hp
  obtain ⟨hA, hR, hK⟩ := EP.runsOf_is (p.segs.map Seg.k)
  obtain ⟨rs, hrs⟩ : ∃ rs, EP.runs p.segs = rs := ⟨_, rfl⟩
  have hrs' : EP.runsOf (p.segs.map Seg.k) = rs := hrs
  rw [hrs'] at hA hR hK
  have hlen := kinds_len rs hR
  rw [hK, List.length_map] at hlen
  have hne : 1 ≤ rs.length := by
    cases rs with
    | nil => simp [EP.kindsOf] at hK; rw [hK] at h1; simp at h1
    | cons x r => simp
  have hA' : EP.Apart ((((0 : Nat) : Int), 0) :: rs) := by
    cases rs with
    | nil => trivial
    | cons x r =>
      refine ⟨?_, hA⟩
      have hx : x.1 ∈ EP.kindsOf (x :: r) := by
        have := hR x (by simp)
        simp [EP.kindsOf]
        left; omega
      rw [hK] at hx
      obtain ⟨g, hg, e⟩ := List.mem_map.1 hx
      obtain ⟨k', k1, _, k2, _⟩ := seg_is (hl g hg)
      rw [← e, k2]
      show (0 : Int) ≠ k'
      omega
  have hpp : pathPts p = 1 + sumOf segPts p.segs := rfl
  have h0 := sum_nonneg p.segs
  have e3 := reads_runs s.far hf.2 rs ({ s with pts := s.pts + 1 } : St) p.segs [] p.st 0 0 rfl hK hA' hR hl h3 (by simp; omega) (by show ((s.pts + 1 : Nat) : Int) + _ ≤ _; omega)
  obtain ⟨c, hc⟩ : ∃ c : Nat, (if p.cl then (1 : Int) else 0) = c ∧ c ≤ 1 ∧ (p.cl = decide (c = 1)) := by
    cases p.cl
    · exact ⟨0, by simp⟩
    · exact ⟨1, by simp⟩
  have x2 : (rs.length * 2 + c) / 2 = rs.length := by omega
  have x3 : (rs.length * 2 + c) % 2 = c := by omega
  have e1 := reads_num (pathRule s.cl) (rs.length * 2 + c) s (by
    unfold pathRule
    rw [x2, x3, if_neg (by omega), if_neg]
    rintro ⟨c1, c2⟩
    rw [c2] at hk
    have hk1 : k = 1 := by
      rcases hk2 with h | h
      · exact h
      · rw [h] at hk; simp at hk
    rw [hk1, hc.2.2, c1] at hcl
    simp at hcl) (by omega)
  have e2 := reads_pt p.st s h3 hf
  have e4 : Reads (fun b s1 => andThen (runs b rs.length 0 [] p.st) (fun l => ret (⟨p.st, nov, l, p.cl⟩ : Path)) { s1 with pts := s1.pts + 1 }) (EP.runsB p.st rs p.segs) (barePath p) s (s.more (pathPts p).toNat) := by
    have := reads_map (g := fun l => (⟨p.st, nov, l, p.cl⟩ : Path)) (u := barePath p) e3 rfl
    intro pre rest
    have e := this pre rest
    rw [show (s.more (pathPts p).toNat) = ({ s with pts := s.pts + 1 } : St).more (sumOf segPts p.segs).toNat by simp only [St.more]; congr 1; omega]
    exact e
  have e5 := reads_bind (f := fun b n => andThen (point b ⟨0, 0⟩) fun p' s1 => andThen (runs b (n / 2) 0 [] p') (fun l => ret (⟨p', nov, l, decide (n % 2 = 1)⟩ : Path)) { s1 with pts := s1.pts + 1 }) e1 (by
    simp only [x2, x3, ← hc.2.2]
    exact reads_bind e2 e4)
  have hB : EP.path p = WP.enc (rs.length * 2 + c) ++ (EP.pt p.st ++ EP.runsB p.st rs p.segs) := by
    unfold EP.path EP.num
    rw [hrs, hc.1, List.append_assoc]
    congr 2
  rw [hB]
  intro pre rest
  exact e5 pre rest

/-- Of each of a list, in what state it is met. -/
def OkAll {α : Type} (ok : α → St → Prop) (T : α → St → St) : List α → St → Prop
  | [], _ => True
  | x :: r, s => ok x s ∧ OkAll ok T r (T x s)
def endOf {α : Type} (T : α → St → St) : List α → St → St
  | [], s => s
  | x :: r, s => endOf T r (T x s)

theorem reads_list {α : Type} (one : List Nat → P α) (e : α → List Nat) (g : α → α) (ok : α → St → Prop) (T : α → St → St) (h : ∀ x s, ok x s → Reads one (e x) (g x) s (T x s)) (l : List α) : ∀ (s : St) (acc : List α), OkAll ok T l s →
    Reads (fun b => list (one b) l.length acc) (l.flatMap e) (acc ++ l.map g) s (endOf T l s) := by
  induction l with
  | nil => intro s acc _; rw [List.map_nil, List.append_nil]; exact reads_ret acc s
  | cons x r ih =>
    intro s acc hk
    have h2 := ih (T x s) (acc ++ [g x]) hk.2
    rw [List.append_assoc] at h2
    exact reads_bind (h x s hk.1) h2

theorem toNat_eq {z : Int} (h : 0 ≤ z) : ((z.toNat : Nat) : Int) = z := Int.toNat_of_nonneg h

theorem reads_place (s : St) (a u : Int) (ha : 0 ≤ a ∧ a ≤ s.cols.length - 1) (h5 : s.cols.length ≤ 256) (hu : IC.place s.used a = some u) : Reads (fun b => DP.place b) (EP.num a) a.toNat s { s with used := u.toNat } := by
  unfold IC.place at hu
  split at hu
  · cases hu
  rename_i h1
  have hx : ((a.toNat : Nat) : Int) = a := toNat_eq ha.1
  have e1 := reads_num (placeRule s.cols.length s.used) a.toNat s (by unfold placeRule; rw [if_neg (by omega), if_neg (by omega)]) (by omega)
  have hu' : (if a.toNat = s.used then s.used + 1 else s.used) = u.toNat := by
    split at hu
    · cases hu; rw [if_pos (by omega)]; omega
    · cases hu; rw [if_neg (by omega)]; omega
  intro pre rest
  show andThen (num (pre ++ (WP.enc a.toNat ++ rest)) (placeRule s.cols.length s.used)) _ _ = _
  rw [andThen_ok (e1 pre rest)]
  show Except.ok (a.toNat, ({ s with at' := _, used := if a.toNat = s.used then s.used + 1 else s.used } : St)) = _
  rw [hu']
  rfl

theorem reads_len (s : St) (z : Int) (hz : 1 ≤ z ∧ z ≤ s.far) (hf : s.far ≤ 1048576) : Reads (fun b => DP.length b) (EP.num z) z.toNat s s := by
  have e1 := reads_num (between 1 s.far.toNat) z.toNat s (by unfold between; rw [if_neg (by omega)]) (by omega)
  intro pre rest
  exact e1 pre rest

/-- The colors used behind a command. -/
def after (u : Int) (c : Paint) : Option Int := match IC.place u c.a with
  | none => none
  | some u1 => IC.place u1 c.b

theorem place_pos {u a v : Int} (hu : 0 ≤ u) (ha : 0 ≤ a) (h : IC.place u a = some v) : 1 ≤ v := by
  unfold IC.place at h
  split at h
  · cases h
  · split at h
    · cases h; omega
    · cases h; omega

theorem reads_paint (s : St) (hf : 0 ≤ s.far ∧ s.far ≤ 1048576) (h5 : s.cols.length ≤ 256) (p : Paint) (hp : chkPaint s.far s.cols.length p = 0) (u : Int) (hu : after s.used p = some u) : Reads (fun b => paint b p.k.toNat) (EP.paint p) p s { s with used := u.toNat } := by
  obtain ⟨k, a, c, pp, q⟩ := p
  unfold after at hu
  simp only at hu
  split at hu
  · cases hu
  rename_i u1 hu1
  have e2' : ∀ (s' : St) (v : Int), 0 ≤ v → ((v.toNat : Nat) : Int) = v := fun _ v h => toNat_eq h
  unfold chkPaint at hp
  split at hp
  · rename_i hk
    have hk : k = 0 := by simpa using hk
    subst hk
    unfold chkFlat at hp
    split at hp
    · cases hp
    rename_i h1
    split at hp
    · cases hp
    rename_i h2
    simp at h1 h2
    have ha := within_is h1
    obtain ⟨⟨rfl, h3⟩, h4⟩ := h2
    have h6 := place_pos (by omega) ha.1 hu1
    have e : u = u1 := by
      unfold IC.place at hu
      rw [if_neg (by omega), if_neg (by omega)] at hu
      cases hu; rfl
    subst e
    have e1 := reads_place s a u ha h5 hu1
    have := reads_map (g := fun (n : Nat) => (⟨0, n, 0, ⟨0, 0⟩, ⟨0, 0⟩⟩ : Paint)) (u := (⟨0, a, 0, pp, q⟩ : Paint)) e1 (by rw [toNat_eq ha.1, zero_pt h3, zero_pt h4])
    have hB : EP.paint ⟨0, a, 0, pp, q⟩ = EP.num a := by simp [EP.paint]
    rw [hB]
    intro pre rest
    exact this pre rest
  · rename_i hk0
    split at hp
    · rename_i hk
      have hk : k = 1 := by simpa using hk
      subst hk
      unfold chkLinear at hp
      split at hp
      · cases hp
      rename_i h1
      simp at h1
      have ha := within_is h1.1.1.1.1
      have hc := within_is h1.1.1.1.2
      have hne : ¬ (pp.x = q.x ∧ pp.y = q.y) := by
        have := h1.2
        unfold samePt at this
        simpa using this
      have e1 := reads_place s a u1 ha h5 hu1
      have h6 := place_pos (by omega) ha.1 hu1
      have e2 := reads_place { s with used := u1.toNat } c u hc h5 (by show IC.place ((u1.toNat : Nat) : Int) c = _; rw [toNat_eq (by omega)]; exact hu)
      have e3 := reads_pt pp ({ s with used := u.toNat } : St) h1.1.1.2 hf
      have e4 : Reads (fun b => other b pp) (EP.pt q) q ({ s with used := u.toNat } : St) ({ s with used := u.toNat } : St) := by
        have hq := h1.1.2
        simp [reach, within] at hq
        have z : -s.far ≤ (0 : Int) ∧ (0 : Int) ≤ s.far := by omega
        have r1 := reads_part q.x 0 ({ s with used := u.toNat } : St) hq.1 z hf.2
        have r2 := reads_part q.y 0 ({ s with used := u.toNat } : St) hq.2 z hf.2
        rw [Int.sub_zero] at r1 r2
        refine reads_bind r1 ?_
        intro pre rest
        show andThen _ _ _ = _
        rw [andThen_ok (r2 pre rest)]
        show (if pp.x = q.x ∧ pp.y = q.y then _ else _) = _
        rw [if_neg hne]
      have := reads_bind (f := fun b (n : Nat) => andThen (place b) fun (c : Nat) => andThen (point b ⟨0, 0⟩) fun p => andThen (other b p) fun q => ret (⟨1, n, c, p, q⟩ : Paint)) e1 (reads_bind e2 (reads_bind e3 (reads_map (g := fun q => (⟨1, a.toNat, c.toNat, pp, q⟩ : Paint)) e4 rfl)))
      rw [toNat_eq ha.1, toNat_eq hc.1] at this
      have hB : EP.paint ⟨1, a, c, pp, q⟩ = EP.num a ++ (EP.num c ++ (EP.pt pp ++ EP.pt q)) := by simp [EP.paint]
      rw [hB]
      intro pre rest
      exact this pre rest
    · split at hp
      · rename_i hk
        have hk : k = 2 := by simpa using hk
        subst hk
        unfold chkRadial at hp
        split at hp
        · cases hp
        rename_i h1
        split at hp
        · cases hp
        rename_i h2
        simp at h1 h2
        have ha := within_is h1.1.1.1
        have hc := within_is h1.1.1.2
        have hq := within_is h1.2
        have e1 := reads_place s a u1 ha h5 hu1
        have h6 := place_pos (by omega) ha.1 hu1
        have e2 := reads_place { s with used := u1.toNat } c u hc h5 (by show IC.place ((u1.toNat : Nat) : Int) c = _; rw [toNat_eq (by omega)]; exact hu)
        have e3 := reads_pt pp ({ s with used := u.toNat } : St) h1.1.2 hf
        have e4 := reads_len ({ s with used := u.toNat } : St) q.x hq hf.2
        have := reads_bind (f := fun b (n : Nat) => andThen (place b) fun (c : Nat) => andThen (point b ⟨0, 0⟩) fun p => andThen (DP.length b) fun r => ret (⟨2, n, c, p, ⟨(r : Nat), 0⟩⟩ : Paint)) e1 (reads_bind e2 (reads_bind e3 (reads_map (g := fun (r : Nat) => (⟨2, a.toNat, c.toNat, pp, ⟨r, 0⟩⟩ : Paint)) e4 rfl)))
        rw [toNat_eq ha.1, toNat_eq hc.1, toNat_eq (by omega)] at this
        have hB : EP.paint ⟨2, a, c, pp, q⟩ = EP.num a ++ (EP.num c ++ (EP.pt pp ++ EP.num q.x)) := by simp [EP.paint]
        have hq2 : q = ⟨q.x, 0⟩ := by obtain ⟨x, y⟩ := q; simp at h2 ⊢; exact h2
        rw [hB]
        rw [hq2]
        intro pre rest
        exact this pre rest
      · cases hp

def pathT (p : Path) (s : St) : St := s.more (pathPts p).toNat
def cmdT (c : Cmd) (s : St) : St := { s with used := ((after s.used c.pn).getD 0).toNat, pts := s.pts + (cmdPts c).toNat, cl := decide (c.k = 2) }

theorem pathPts_pos (p : Path) : 0 ≤ pathPts p := by have := sum_nonneg p.segs; unfold pathPts; omega
theorem sumPaths_pos (l : List Path) : 0 ≤ sumOf pathPts l := by
  induction l with
  | nil => simp [sumOf]
  | cons g r ih => have := pathPts_pos g; simp only [sumOf]; omega
theorem cmdPts_pos (c : Cmd) : 0 ≤ cmdPts c := sumPaths_pos c.paths
theorem sumCmds_pos (l : List Cmd) : 0 ≤ sumOf cmdPts l := by
  induction l with
  | nil => simp [sumOf]
  | cons g r ih => have := cmdPts_pos g; simp only [sumOf]; omega

theorem paths_ok (far : Int) (k : Int) (l : List Path) : ∀ s : St, s.far = far → s.cl = decide (k = 2) → (∀ p ∈ l, chkOne far k p = 0) → (s.pts : Int) + sumOf pathPts l ≤ 4000 →
    OkAll (fun p s => s.far = far ∧ s.cl = decide (k = 2) ∧ chkOne far k p = 0 ∧ (s.pts : Int) + pathPts p ≤ 4000) pathT l s ∧ endOf pathT l s = s.more (sumOf pathPts l).toNat := by
  induction l with
  | nil => intro s _ _ _ _; exact ⟨trivial, by simp [endOf, sumOf, St.more]⟩
  | cons p r ih =>
    intro s h1 h2 h3 h4
    have p0 := pathPts_pos p
    have r0 := sumPaths_pos r
    simp only [sumOf] at h4
    have := ih (pathT p s) h1 h2 (fun x hx => h3 x (by simp [hx])) (by simp only [pathT, St.more]; omega)
    refine ⟨⟨⟨h1, h2, h3 p (by simp), by omega⟩, this.1⟩, ?_⟩
    show endOf pathT r (pathT p s) = _
    rw [this.2]
    simp only [pathT, more_more, sumOf]
    congr 1
    omega

theorem reads_cmd (s : St) (hf : 0 ≤ s.far ∧ s.far ≤ 1048576) (h5 : s.cols.length ≤ 256) (c : Cmd) (hc : chkCmd s.far s.cols.length c = 0) (u : Int) (hu : after s.used c.pn = some u) (h4 : (s.pts : Int) + cmdPts c ≤ 4000) : Reads (fun b => cmd b) (EP.cmd c) (bareCmd c) s (cmdT c s) := by
  unfold chkCmd at hc
  split at hc
  · cases hc
  rename_i h1
  split at hc
  · exact absurd hc (by assumption)
  rename_i h2
  split at hc
  · cases hc
  rename_i h3
  split at hc
  · cases hc
  rename_i h6
  have h2' : chkPaint s.far s.cols.length c.pn = 0 := by omega
  have hl := first_zero _ _ hc
  simp at h1
  obtain ⟨k, r, wd, pn, vp, paths⟩ := c
  simp only at h1 h2' h3 h6 hl hu h4
  have hk3 : 0 ≤ pn.k ∧ pn.k ≤ 2 := by
    unfold chkPaint at h2'
    split at h2'
    · rename_i e; simp at e; omega
    · split at h2'
      · rename_i e; simp at e; omega
      · split at h2'
        · rename_i e; simp at e; omega
        · cases h2'
  obtain ⟨kp, hkp⟩ : ∃ kp : Nat, pn.k = kp ∧ kp ≤ 2 := ⟨pn.k.toNat, by omega, by omega⟩
  -- the head
  obtain ⟨kn, rn, hkn, hrn, hkr, hkk, hwd⟩ : ∃ kn rn : Nat, k = kn + 1 ∧ r = rn ∧ kn + 2 * rn ≤ 2 ∧ kn ≤ 1 ∧ ((kn = 0 ∧ wd = 0) ∨ (kn = 1 ∧ 1 ≤ wd ∧ wd ≤ s.far)) := by
    unfold headed at h1
    split at h1
    · rename_i e
      have e : k = 1 := by simpa using e
      simp at h1
      rcases h1.1 with h | h
      · exact ⟨0, 0, by omega, by omega, by omega, by omega, .inl ⟨rfl, h1.2⟩⟩
      · exact ⟨0, 1, by omega, by omega, by omega, by omega, .inl ⟨rfl, h1.2⟩⟩
    · split at h1
      · rename_i e
        have e : k = 2 := by simpa using e
        simp at h1
        have hw := within_is h1.2
        exact ⟨1, 0, by omega, by omega, by omega, by omega, .inr ⟨rfl, hw⟩⟩
      · cases h1
  obtain ⟨N, hN⟩ : ∃ N, kn + 2 * rn + 4 * kp = N := ⟨_, rfl⟩
  have n4 : N / 4 = kp := by omega
  have n2 : N % 2 = kn := by omega
  have n3 : N / 2 % 2 = rn := by omega
  have e1 := reads_num cmdRule N s (by unfold cmdRule; rw [if_neg (by omega)]) (by omega)
  have e2 : Reads (fun b => if N % 2 = 1 then DP.length b else ret 0) (if k == 2 then EP.num wd else []) wd.toNat s s := by
    rcases hwd with ⟨a1, a2⟩ | ⟨a1, a2⟩
    · have : (k == 2) = false := by simp; omega
      rw [this, n2, a1, a2]
      exact reads_ret _ _
    · have : (k == 2) = true := by simp; omega
      rw [this, n2, a1]
      exact reads_len s wd a2 hf.2
  have e3 := reads_paint s hf h5 pn h2' u hu
  rw [show pn.k.toNat = kp by omega] at e3
  have hcl : decide (kn = 1) = decide (k = 2) := by
    congr 1
    exact propext ⟨fun h => by omega, fun h => by omega⟩
  obtain ⟨s2, hs2⟩ : ∃ s2 : St, s2 = { s with used := u.toNat, cl := decide (k = 2) } := ⟨_, rfl⟩
  have e4 := reads_num pathsRule paths.length s2 (by unfold pathsRule atMost; rw [if_neg h3, if_neg h6]) (by omega)
  have hP := paths_ok s.far k paths s2 (by rw [hs2]) (by rw [hs2]) hl (by rw [hs2]; exact h4)
  have e5 := reads_list (fun b => path b) EP.path barePath _ pathT (fun p s' h => reads_path s' k h.2.1 (by omega) (by rw [h.1]; exact hf) p (by rw [h.1]; exact h.2.2.1) h.2.2.2) paths s2 [] hP.1
  rw [hP.2, List.nil_append] at e5
  have hend : s2.more (sumOf pathPts paths).toNat = cmdT ⟨k, r, wd, pn, vp, paths⟩ s := by
    rw [hs2]
    simp only [cmdT, St.more, hu, cmdPts, Option.getD]
  rw [hend] at e5
  have e6 : Reads (fun b s' => andThen (num b pathsRule) (fun m => andThen (list (path b) m []) fun l => ret (⟨(kn : Nat) + 1, (rn : Nat), wd.toNat, pn, nov, l⟩ : Cmd)) { s' with cl := decide (kn = 1) }) (EP.num paths.length ++ paths.flatMap EP.path) (bareCmd ⟨k, r, wd, pn, vp, paths⟩) { s with used := u.toNat } (cmdT ⟨k, r, wd, pn, vp, paths⟩ s) := by
    have := reads_bind (f := fun b m => andThen (list (path b) m []) fun l => ret (⟨(kn : Nat) + 1, (rn : Nat), wd.toNat, pn, nov, l⟩ : Cmd)) e4 (reads_map (g := fun l => (⟨(kn : Nat) + 1, (rn : Nat), wd.toNat, pn, nov, l⟩ : Cmd)) (u := bareCmd ⟨k, r, wd, pn, vp, paths⟩) e5 (by
      unfold bareCmd
      simp only [Cmd.mk.injEq, and_true]
      exact ⟨hkn.symm, hrn.symm, by omega⟩))
    rw [hs2] at this
    rw [hcl]
    intro pre rest
    exact this pre rest
  have e7 := reads_bind (f := fun b n => andThen (if n % 2 = 1 then DP.length b else ret 0) fun wd => andThen (paint b (n / 4)) fun p s => andThen (num b pathsRule) (fun m => andThen (list (path b) m []) fun l => ret (⟨(n % 2 : Nat) + 1, (n / 2 % 2 : Nat), wd, p, nov, l⟩ : Cmd)) { s with cl := decide (n % 2 = 1) }) e1 (by
    have := reads_bind (f := fun b (wd : Nat) => andThen (paint b kp) fun p s => andThen (num b pathsRule) (fun m => andThen (list (path b) m []) fun l => ret (⟨(kn : Nat) + 1, (rn : Nat), wd, p, nov, l⟩ : Cmd)) { s with cl := decide (kn = 1) }) e2 (reads_bind (f := fun b p s => andThen (num b pathsRule) (fun m => andThen (list (path b) m []) fun l => ret (⟨(kn : Nat) + 1, (rn : Nat), wd.toNat, p, nov, l⟩ : Cmd)) { s with cl := decide (kn = 1) }) e3 e6)
    simp only [n2, n3, n4] at this ⊢
    exact this)
  have hB : EP.cmd ⟨k, r, wd, pn, vp, paths⟩ = WP.enc N ++ ((if k == 2 then EP.num wd else []) ++ (EP.paint pn ++ (EP.num paths.length ++ paths.flatMap EP.path))) := by
    unfold EP.cmd
    simp only
    have : k - 1 + r * 2 + pn.k * 4 = (N : Int) := by omega
    rw [this]
    simp [EP.num]
  rw [hB]
  intro pre rest
  exact e7 pre rest

end DP
end Go.Proofs.YtcnlkdoifogkbaaGreatDoor

/-
  A right icon's bytes are read as it was; with one byte more they are not: the whole.
-/
namespace Go.Proofs.YtcnlkdoifogkbaaGreatDoor
namespace DP
open IC

def colT (c : Col) (s : St) : St := { s with cols := s.cols ++ [c] }
def colOk (c : Col) (s : St) : Prop := (0 ≤ c.r ∧ c.r < 256) ∧ (0 ≤ c.g ∧ c.g < 256) ∧ (0 ≤ c.b ∧ c.b < 256) ∧ (0 ≤ c.a ∧ c.a < 256) ∧ s.cols.any (sameCol c) = false

theorem getD_at (pre x rest : List Nat) (i j : Nat) (hi : i = pre.length + j) (h : j < x.length) : (pre ++ (x ++ rest)).getD i 0 = x[j] := by
  subst hi
  rw [List.getD_eq_getElem?_getD, List.getElem?_append_right (by omega), Nat.add_sub_cancel_left, List.getElem?_append_left h]
  simp [h]

theorem reads_col (c : Col) (s : St) (h : colOk c s) : Reads (fun b => col b) (EP.col c) c s (colT c s) := by
  obtain ⟨h1, h2, h3, h4, h5⟩ := h
  intro pre rest
  have hl : (EP.col c).length = 4 := rfl
  have e : colAt (pre ++ (EP.col c ++ rest)) pre.length = c := by
    unfold colAt
    rw [getD_at pre (EP.col c) rest pre.length 0 rfl (by omega), getD_at pre (EP.col c) rest (pre.length + 1) 1 rfl (by omega), getD_at pre (EP.col c) rest (pre.length + 2) 2 rfl (by omega), getD_at pre (EP.col c) rest (pre.length + 3) 3 rfl (by omega)]
    simp only [EP.col, List.getElem_cons_zero, List.getElem_cons_succ]
    rw [toNat_eq h1.1, toNat_eq h2.1, toNat_eq h3.1, toNat_eq h4.1]
  have h5' : (s.on pre.length).cols.any (sameCol c) = false := h5
  show col _ _ = _
  unfold col
  rw [show (s.on pre.length).at' = pre.length from rfl, e, h5', if_neg (by simp; omega), if_neg (by simp), hl]
  rfl

theorem cols_ok (l : List Col) (hb : ∀ c ∈ l, (0 ≤ c.r ∧ c.r < 256) ∧ (0 ≤ c.g ∧ c.g < 256) ∧ (0 ≤ c.b ∧ c.b < 256) ∧ (0 ≤ c.a ∧ c.a < 256)) : ∀ s : St, twinsFrom s.cols l = false → OkAll colOk colT l s ∧ endOf colT l s = { s with cols := s.cols ++ l } := by
  induction l with
  | nil => intro s _; exact ⟨trivial, by simp [endOf]⟩
  | cons c r ih =>
    intro s h
    unfold twinsFrom at h
    simp only [Bool.or_eq_false_iff] at h
    have := ih (fun x hx => hb x (by simp [hx])) (colT c s) h.2
    refine ⟨⟨?_, this.1⟩, ?_⟩
    · obtain ⟨b1, b2, b3, b4⟩ := hb c (by simp)
      exact ⟨b1, b2, b3, b4, h.1⟩
    · show endOf colT r (colT c s) = _
      rw [this.2]
      simp [colT]

theorem used_after (u : Int) (c : Cmd) (r : List Cmd) (v : Int) (h : usedFrom u (c :: r) = some v) : ∃ w, after u c.pn = some w ∧ usedFrom w r = some v := by
  unfold usedFrom at h
  split at h
  · cases h
  rename_i u1 h1
  split at h
  · cases h
  rename_i u2 h2
  exact ⟨u2, by unfold after; rw [h1]; exact h2, h⟩

theorem place_ge {u a v : Int} (h : IC.place u a = some v) : u ≤ v := by
  unfold IC.place at h
  split at h
  · cases h
  · split at h <;> (cases h; omega)
theorem after_ge {u v : Int} {p : Paint} (h : after u p = some v) : u ≤ v := by
  unfold after at h
  split at h
  · cases h
  rename_i h1
  have := place_ge h1
  have := place_ge h
  omega

theorem cmds_ok (far : Int) (n : Nat) (l : List Cmd) : ∀ (s : St) (v : Int), s.far = far → s.cols.length = n → (∀ c ∈ l, chkCmd far n c = 0) → usedFrom s.used l = some v → (s.pts : Int) + sumOf cmdPts l ≤ 4000 →
    OkAll (fun c s => s.far = far ∧ s.cols.length = n ∧ chkCmd far n c = 0 ∧ (∃ u, after s.used c.pn = some u) ∧ (s.pts : Int) + cmdPts c ≤ 4000) cmdT l s ∧ (endOf cmdT l s).used = v.toNat ∧ (endOf cmdT l s).cols = s.cols := by
  induction l with
  | nil => intro s v _ _ _ h _; simp [usedFrom] at h; exact ⟨trivial, by show s.used = _; omega, rfl⟩
  | cons c r ih =>
    intro s v h1 h2 h3 h4 h5
    obtain ⟨w, hw, h4'⟩ := used_after _ _ _ _ h4
    have p0 := cmdPts_pos c
    have r0 := sumCmds_pos r
    have w0 := after_ge hw
    simp only [sumOf] at h5
    have := ih (cmdT c s) v h1 h2 (fun x hx => h3 x (by simp [hx])) (by
      show usedFrom ((((after s.used c.pn).getD 0).toNat : Nat) : Int) r = some v
      rw [hw, Option.getD_some, toNat_eq (by omega)]
      exact h4') (by simp only [cmdT]; omega)
    exact ⟨⟨⟨h1, h2, h3 c (by simp), ⟨w, hw⟩, by omega⟩, this.1⟩, this.2.1, this.2.2⟩

theorem greatest_le (i : Icon) : 0 ≤ greatest i ∧ greatest i ≤ 1048576 := by
  unfold greatest
  split
  · rename_i h
    unfold sized at h
    simp [within] at h
    have hs : (2 : Int) ^ i.s.toNat ≤ 64 ∧ (1 : Int) ≤ 2 ^ i.s.toNat := by
      have : i.s.toNat ≤ 6 := by omega
      have : i.s.toNat = 0 ∨ i.s.toNat = 1 ∨ i.s.toNat = 2 ∨ i.s.toNat = 3 ∨ i.s.toNat = 4 ∨ i.s.toNat = 5 ∨ i.s.toNat = 6 := by omega
      rcases this with h | h | h | h | h | h | h <;> rw [h] <;> decide
    obtain ⟨m, hm⟩ : ∃ m, max i.w i.h = m := ⟨_, rfl⟩
    have hm2 : 1 ≤ m ∧ m ≤ 4096 := by omega
    rw [hm]
    have a1 : 4 * m * 2 ^ i.s.toNat ≤ 16384 * 64 := Int.mul_le_mul (by omega) hs.1 (by omega) (by omega)
    have a2 : 0 ≤ 4 * m * 2 ^ i.s.toNat := Int.mul_nonneg (by omega) (by omega)
    omega
  · omega

/-- What is read behind the first four bytes. -/
def tail (b : List Nat) : P Icon := andThen (num b (between 1 4096)) fun wd => andThen (num b (between 1 4096)) fun ht => andThen (num b (between 0 6)) fun sc s =>
  andThen (num b (atMost 256)) (fun n => andThen (list (col b) n []) fun cs => andThen (num b (atMost 200)) fun m => andThen (list (cmd b) m []) fun ms => ret ⟨wd, ht, sc, nov, cs, nov, ms⟩) { s with far := greatest ⟨wd, ht, sc, nov, [], nov, []⟩ }

theorem most_is (b : List Nat) : most b = andThen (magic b) fun _ => tail b := rfl

def iconBytes (i : Icon) : List Nat := EP.num i.w ++ (EP.num i.h ++ (EP.num i.s ++ (EP.num i.cols.length ++ (i.cols.flatMap EP.col ++ (EP.num i.cmds.length ++ i.cmds.flatMap EP.cmd)))))
theorem icon_is (i : Icon) : EP.icon i = [71, 76, 89, 49] ++ iconBytes i := by
  unfold EP.icon iconBytes
  simp only [List.append_assoc]

/-- What Check's answer says of the whole. -/
theorem chk_is {i : Icon} (h : chk i = 0) : sized i = true ∧ i.cols.length ≤ 256 ∧ i.cmds.length ≤ 200 ∧ (∀ c ∈ i.cmds, chkCmd (greatest i) i.cols.length c = 0) ∧ points i ≤ 4000 ∧ twinsFrom [] i.cols = false ∧ usedFrom 0 i.cmds = some (i.cols.length : Int) := by
  unfold chk at h
  split at h
  · cases h
  rename_i h1
  split at h
  · cases h
  rename_i h2
  split at h
  · exact absurd h (by assumption)
  rename_i h3
  split at h
  · cases h
  rename_i h4
  split at h
  · cases h
  rename_i h5
  simp at h1 h5
  exact ⟨h1, by omega, by omega, first_zero _ _ (by omega), by omega, h5.1, h5.2⟩

theorem reads_tail (i : Icon) (h : chk i = 0) (hb : ∀ c ∈ i.cols, (0 ≤ c.r ∧ c.r < 256) ∧ (0 ≤ c.g ∧ c.g < 256) ∧ (0 ≤ c.b ∧ c.b < 256) ∧ (0 ≤ c.a ∧ c.a < 256)) : ∃ s', Reads tail (iconBytes i) (bare i) st0 s' ∧ s'.used = i.cols.length ∧ s'.cols = i.cols := by
  obtain ⟨h1, h2, h3, h4, h5, h6, h7⟩ := chk_is h
  have hf := greatest_le i
  obtain ⟨far, hfar⟩ : ∃ far, greatest i = far := ⟨_, rfl⟩
  rw [hfar] at h4 hf
  unfold sized at h1
  simp [within] at h1
  have hg : greatest ⟨i.w.toNat, i.h.toNat, i.s.toNat, nov, [], nov, []⟩ = far := by
    rw [← hfar]
    unfold greatest sized
    simp only [toNat_eq (show 0 ≤ i.w by omega), toNat_eq (show 0 ≤ i.h by omega), toNat_eq (show 0 ≤ i.s by omega)]
  have e1 := reads_num (between 1 4096) i.w.toNat st0 (by unfold between; rw [if_neg (by omega)]) (by omega)
  have e2 := reads_num (between 1 4096) i.h.toNat st0 (by unfold between; rw [if_neg (by omega)]) (by omega)
  have e3 := reads_num (between 0 6) i.s.toNat st0 (by unfold between; rw [if_neg (by omega)]) (by omega)
  obtain ⟨s1, hs1⟩ : ∃ s1 : St, s1 = { st0 with far := far } := ⟨_, rfl⟩
  have e4 := reads_num (atMost 256) i.cols.length s1 (by unfold atMost; rw [if_neg (by omega)]) (by omega)
  have hC := cols_ok i.cols hb s1 (by rw [hs1]; exact h6)
  have e5 := reads_list (fun b => col b) EP.col id colOk colT (fun c s hk => reads_col c s hk) i.cols s1 [] hC.1
  rw [hC.2, List.map_id, List.nil_append] at e5
  obtain ⟨s2, hs2⟩ : ∃ s2 : St, s2 = { s1 with cols := s1.cols ++ i.cols } := ⟨_, rfl⟩
  rw [← hs2] at e5
  have c2 : s2.cols = i.cols := by rw [hs2, hs1]; rfl
  have e6 := reads_num (atMost 200) i.cmds.length s2 (by unfold atMost; rw [if_neg (by omega)]) (by omega)
  have hM := cmds_ok far i.cols.length i.cmds s2 i.cols.length (by rw [hs2, hs1]) (by rw [c2]) h4 (by rw [hs2, hs1]; exact h7) (by rw [hs2, hs1]; show (0 : Int) + points i ≤ 4000; omega)
  have e7 := reads_list (fun b => cmd b) EP.cmd bareCmd _ cmdT (fun c s hk => by
    obtain ⟨k1, k2, k3, ⟨u, k4⟩, k5⟩ := hk
    exact reads_cmd s (by rw [k1]; exact hf) (by omega) c (by rw [k1, k2]; exact k3) u k4 k5) i.cmds s2 [] hM.1
  rw [List.nil_append] at e7
  refine ⟨endOf cmdT i.cmds s2, ?_, by rw [hM.2.1]; omega, by rw [hM.2.2, c2]⟩
  have e8 := reads_bind (f := fun b n => andThen (list (col b) n []) fun cs => andThen (num b (atMost 200)) fun m => andThen (list (cmd b) m []) fun ms => ret (⟨i.w.toNat, i.h.toNat, i.s.toNat, nov, cs, nov, ms⟩ : Icon)) e4 (reads_bind (f := fun b cs => andThen (num b (atMost 200)) fun m => andThen (list (cmd b) m []) fun ms => ret (⟨i.w.toNat, i.h.toNat, i.s.toNat, nov, cs, nov, ms⟩ : Icon)) e5 (reads_bind (f := fun b m => andThen (list (cmd b) m []) fun ms => ret (⟨i.w.toNat, i.h.toNat, i.s.toNat, nov, i.cols, nov, ms⟩ : Icon)) e6 (reads_map (g := fun ms => (⟨i.w.toNat, i.h.toNat, i.s.toNat, nov, i.cols, nov, ms⟩ : Icon)) (u := bare i) e7 (by
    unfold bare
    simp only [toNat_eq (show 0 ≤ i.w by omega), toNat_eq (show 0 ≤ i.h by omega), toNat_eq (show 0 ≤ i.s by omega)]))))
  rw [hs1] at e8
  have e9 : Reads (fun b s => andThen (num b (atMost 256)) (fun n => andThen (list (col b) n []) fun cs => andThen (num b (atMost 200)) fun m => andThen (list (cmd b) m []) fun ms => ret (⟨i.w.toNat, i.h.toNat, i.s.toNat, nov, cs, nov, ms⟩ : Icon)) { s with far := greatest ⟨i.w.toNat, i.h.toNat, i.s.toNat, nov, [], nov, []⟩ }) (WP.enc i.cols.length ++ (i.cols.flatMap EP.col ++ (WP.enc i.cmds.length ++ i.cmds.flatMap EP.cmd))) (bare i) st0 (endOf cmdT i.cmds s2) := by
    rw [hg]
    intro pre rest
    exact e8 pre rest
  exact reads_bind (f := fun b (wd : Nat) => andThen (num b (between 1 4096)) fun ht => andThen (num b (between 0 6)) fun sc s =>
    andThen (num b (atMost 256)) (fun n => andThen (list (col b) n []) fun cs => andThen (num b (atMost 200)) fun m => andThen (list (cmd b) m []) fun ms => ret (⟨wd, ht, sc, nov, cs, nov, ms⟩ : Icon)) { s with far := greatest ⟨wd, ht, sc, nov, [], nov, []⟩ }) e1
    (reads_bind (f := fun b (ht : Nat) => andThen (num b (between 0 6)) fun sc s =>
      andThen (num b (atMost 256)) (fun n => andThen (list (col b) n []) fun cs => andThen (num b (atMost 200)) fun m => andThen (list (cmd b) m []) fun ms => ret (⟨i.w.toNat, ht, sc, nov, cs, nov, ms⟩ : Icon)) { s with far := greatest ⟨i.w.toNat, ht, sc, nov, [], nov, []⟩ }) e2
      (reads_bind (f := fun b (sc : Nat) s =>
        andThen (num b (atMost 256)) (fun n => andThen (list (col b) n []) fun cs => andThen (num b (atMost 200)) fun m => andThen (list (cmd b) m []) fun ms => ret (⟨i.w.toNat, i.h.toNat, sc, nov, cs, nov, ms⟩ : Icon)) { s with far := greatest ⟨i.w.toNat, i.h.toNat, sc, nov, [], nov, []⟩ }) e3 e9))

/-- Bytes of a right icon, with something behind them or nothing: all but the end. -/
theorem most_right (i : Icon) (h : chk i = 0) (hb : ∀ c ∈ i.cols, (0 ≤ c.r ∧ c.r < 256) ∧ (0 ≤ c.g ∧ c.g < 256) ∧ (0 ≤ c.b ∧ c.b < 256) ∧ (0 ≤ c.a ∧ c.a < 256)) (rest : List Nat) : ∃ s', most (EP.icon i ++ rest) st0 = .ok (bare i, s') ∧ s'.at' = (EP.icon i).length ∧ s'.used = i.cols.length ∧ s'.cols = i.cols := by
  obtain ⟨s', h1, h2, h3⟩ := reads_tail i h hb
  refine ⟨s'.on (4 + (iconBytes i).length), ?_, by rw [icon_is]; simp [St.on]; omega, h2, h3⟩
  have e := h1 [71, 76, 89, 49] rest
  rw [most_is, icon_is, List.append_assoc]
  have hm : magic ([71, 76, 89, 49] ++ (iconBytes i ++ rest)) st0 = .ok ((), st0.on 4) := by
    unfold magic
    rw [if_neg (by simp), if_pos (by simp)]
    rfl
  rw [andThen_ok hm]
  exact e

theorem icon_right (i : Icon) (h : chk i = 0) (hb : ∀ c ∈ i.cols, (0 ≤ c.r ∧ c.r < 256) ∧ (0 ≤ c.g ∧ c.g < 256) ∧ (0 ≤ c.b ∧ c.b < 256) ∧ (0 ≤ c.a ∧ c.a < 256)) (hl : (EP.icon i).length ≤ 60000) : DP.icon (EP.icon i) = .ok (bare i) := by
  obtain ⟨s', h1, h2, h3, h4⟩ := most_right i h hb []
  rw [List.append_nil] at h1
  unfold DP.icon body
  rw [if_neg (by omega), andThen_ok h1]
  have : fin (EP.icon i) s' = .ok ((), s') := by
    unfold fin
    rw [if_neg (by rw [h3, h4]; omega), if_neg (by omega)]
  rw [andThen_ok this]
  rfl

theorem icon_trail (i : Icon) (h : chk i = 0) (hb : ∀ c ∈ i.cols, (0 ≤ c.r ∧ c.r < 256) ∧ (0 ≤ c.g ∧ c.g < 256) ∧ (0 ≤ c.b ∧ c.b < 256) ∧ (0 ≤ c.a ∧ c.a < 256)) (x : Nat) (hl : (EP.icon i).length < 60000) : DP.icon (EP.icon i ++ [x]) = .error (eTrail, (EP.icon i).length) := by
  obtain ⟨s', h1, h2, h3, h4⟩ := most_right i h hb [x]
  unfold DP.icon body
  rw [if_neg (by simp; omega), andThen_ok h1]
  have : fin (EP.icon i ++ [x]) s' = .error (eTrail, (EP.icon i).length) := by
    unfold fin
    rw [if_neg (by rw [h3, h4]; omega), if_pos (by simp; omega), h2]
  rw [andThen_err this]

end DP
end Go.Proofs.YtcnlkdoifogkbaaGreatDoor

/-
  Bytes that are cut are told to be short.
-/
set_option linter.unusedVariables false
namespace Go.Proofs.YtcnlkdoifogkbaaGreatDoor
namespace DP
open IC

/-- What is read is read of the bytes up to its end alone; of bytes that end ahead of it it is told that they are short. -/
def LocAt {α : Type} (p : List Nat → P α) (s : St) : Prop := ∀ b v s', p b s = .ok (v, s') → s.at' ≤ s'.at' ∧ ∀ k, s.at' ≤ k → (s'.at' ≤ k ∧ p (b.take k) s = .ok (v, s')) ∨ (k < s'.at' ∧ ∃ n, p (b.take k) s = .error (eShort, n))
def Loc {α : Type} (p : List Nat → P α) : Prop := ∀ s, LocAt p s

theorem loc_const {α : Type} (q : P α) (h : ∀ s v s', q s = .ok (v, s') → s'.at' = s.at') : Loc (fun _ => q) := by
  intro s b v s' e
  have := h s v s' e
  exact ⟨by omega, fun k hk => .inl ⟨by omega, e⟩⟩
theorem loc_ret {α : Type} (a : α) : Loc (fun _ => ret a) := loc_const _ (fun s v s' h => by unfold ret at h; cases h; rfl)

theorem loc_bind {α β : Type} {p : List Nat → P α} {f : List Nat → α → P β} {s : St} (hp : LocAt p s) (hf : ∀ a, Loc (fun b => f b a)) : LocAt (fun b => andThen (p b) (f b)) s := by
  intro b v s' e
  change andThen (p b) (f b) s = _ at e
  show _ ∧ ∀ k, _ → (_ ∧ andThen (p (b.take k)) (f (b.take k)) s = _) ∨ (_ ∧ ∃ n, andThen (p (b.take k)) (f (b.take k)) s = _)
  cases hx : p b s with
  | error x => rw [show andThen (p b) (f b) s = .error x from andThen_err hx] at e; cases e
  | ok r =>
    obtain ⟨a, s1⟩ := r
    rw [show andThen (p b) (f b) s = f b a s1 from andThen_ok hx] at e
    obtain ⟨h1, h2⟩ := hp b a s1 hx
    obtain ⟨h3, h4⟩ := hf a s1 b v s' e
    refine ⟨by omega, fun k hk => ?_⟩
    rcases h2 k hk with ⟨g1, g2⟩ | ⟨g1, n, g2⟩
    · rcases h4 k g1 with ⟨g3, g4⟩ | ⟨g3, n, g4⟩
      · exact .inl ⟨g3, by rw [andThen_ok g2]; exact g4⟩
      · exact .inr ⟨g3, n, by rw [andThen_ok g2]; exact g4⟩
    · exact .inr ⟨by omega, n, by rw [andThen_err g2]⟩

theorem loc_upd {α : Type} {p : List Nat → P α} (g : St → St) (hg : ∀ s, (g s).at' = s.at') (h : Loc p) : Loc (fun b s => p b (g s)) := by
  intro s b v s' e
  have := h (g s) b v s' e
  rw [hg] at this
  exact this

theorem dec_local : ∀ (l : List Nat) (acc k n j m : Nat), WP.dec acc k l = .ok (n, j) → k < j ∧ (j - k ≤ m → WP.dec acc k (l.take m) = .ok (n, j)) ∧ (m < j - k → WP.dec acc k (l.take m) = .error false)
  | [], acc, k, n, j, m, h => by rw [WP.dec_nil] at h; cases h
  | c :: r, acc, k, n, j, m, h => by
    cases hs : WP.stands c k with
    | false => rw [WP.dec_bad hs] at h; cases h
    | true =>
      by_cases hc : c < 128
      · rw [WP.dec_end hs hc] at h
        have h' := Except.ok.inj h
        injection h' with h1 h2
        subst h2
        refine ⟨by omega, fun hm => ?_, fun hm => ?_⟩
        · obtain ⟨i, rfl⟩ : ∃ i, m = i + 1 := ⟨m - 1, by omega⟩
          rw [List.take_succ_cons, WP.dec_end hs hc, h1]
        · have : m = 0 := by omega
          subst this
          rw [List.take_zero, WP.dec_nil]
      · rw [WP.dec_on hs hc] at h
        cases m with
        | zero =>
          obtain ⟨g1, -, -⟩ := dec_local r _ (k + 1) n j 0 h
          exact ⟨by omega, fun hm => by omega, fun _ => by rw [List.take_zero, WP.dec_nil]⟩
        | succ i =>
          obtain ⟨g1, g2, g3⟩ := dec_local r _ (k + 1) n j i h
          refine ⟨by omega, fun hm => ?_, fun hm => ?_⟩
          · rw [List.take_succ_cons, WP.dec_on hs hc]; exact g2 (by omega)
          · rw [List.take_succ_cons, WP.dec_on hs hc]; exact g3 (by omega)

theorem loc_num (rule : Nat → Option Nat) : Loc (fun b => num b rule) := by
  intro s b v s' e
  change num b rule s = _ at e
  show s.at' ≤ s'.at' ∧ ∀ k, s.at' ≤ k → (s'.at' ≤ k ∧ num (b.take k) rule s = _) ∨ (k < s'.at' ∧ ∃ n, num (b.take k) rule s = _)
  unfold num at e
  cases hd : WP.dec 0 0 (b.drop s.at') with
  | error x => rw [hd] at e; cases e
  | ok r =>
    obtain ⟨n, j⟩ := r
    rw [hd] at e
    simp only at e
    cases hr : rule n with
    | some c => rw [hr] at e; cases e
    | none =>
      rw [hr] at e
      have e' := Except.ok.inj e
      injection e' with e1 e2
      subst e1
      subst e2
      refine ⟨by show s.at' ≤ s.at' + j; omega, fun k hk => ?_⟩
      obtain ⟨g1, g2, g3⟩ := dec_local _ 0 0 n j (k - s.at') hd
      have ht : (b.take k).drop s.at' = (b.drop s.at').take (k - s.at') := by rw [List.drop_take]
      by_cases hj : s.at' + j ≤ k
      · left
        refine ⟨hj, ?_⟩
        unfold num
        rw [ht, g2 (by omega)]
        simp only [hr]
      · right
        refine ⟨by show k < s.at' + j; omega, s.at', ?_⟩
        unfold num
        rw [ht, g3 (by omega)]
        rfl

theorem loc_fin {α : Type} (a : α) (g : St → St) (hg : ∀ s, (g s).at' = s.at') : Loc (fun _ => (fun s => .ok (a, g s) : P α)) := loc_const _ (fun s v s' h => by
  have := Except.ok.inj h
  injection this with _ h2
  rw [← h2]; exact hg s)

theorem loc_part (ahead : Int) : Loc (fun b => part b ahead) := fun s =>
  show LocAt (fun b => andThen (num b (partRule s.far ahead)) (fun n => ret (ahead + zag n))) s from loc_bind (loc_num _ s) (fun _ => loc_ret _)
theorem loc_point (q : Pt) : Loc (fun b => point b q) := fun s =>
  show LocAt (fun b => andThen (part b q.x) fun x => andThen (part b q.y) fun y => ret (⟨x, y⟩ : Pt)) s from
    loc_bind (f := fun b x => andThen (part b q.y) fun y => ret (⟨x, y⟩ : Pt)) (loc_part q.x s) (fun x s1 => loc_bind (f := fun _ y => ret (⟨x, y⟩ : Pt)) (loc_part q.y s1) (fun _ => loc_ret _))
theorem loc_length : Loc (fun b => DP.length b) := fun s => show LocAt (fun b => num b (between 1 s.far.toNat)) s from loc_num _ s
theorem loc_place : Loc (fun b => DP.place b) := fun s =>
  show LocAt (fun b => andThen (num b (placeRule s.cols.length s.used)) (fun n => (fun s' => .ok (n, { s' with used := if n = s'.used then s'.used + 1 else s'.used }) : P Nat))) s from
    loc_bind (f := fun _ n => (fun s' => .ok (n, { s' with used := if n = s'.used then s'.used + 1 else s'.used }) : P Nat)) (loc_num _ s) (fun n => loc_fin n (fun s' => { s' with used := if n = s'.used then s'.used + 1 else s'.used }) (fun _ => rfl))
theorem loc_other (p : Pt) : Loc (fun b => other b p) := by
  intro s
  refine (show LocAt (fun b => andThen (part b 0) (fun x => (fun s => andThen (part b 0) (fun y s' => if p.x = x ∧ p.y = y then .error (eRange, s.at') else .ok (⟨x, y⟩, s')) s : P Pt))) s from ?_)
  refine loc_bind (f := fun b x => (fun s => andThen (part b 0) (fun y s' => if p.x = x ∧ p.y = y then .error (eRange, s.at') else .ok (⟨x, y⟩, s')) s : P Pt)) (loc_part 0 s) (fun x s1 => ?_)
  refine (show LocAt (fun b => andThen (part b 0) (fun y => (fun s' => if p.x = x ∧ p.y = y then .error (eRange, s1.at') else .ok (⟨x, y⟩, s') : P Pt))) s1 from ?_)
  refine loc_bind (f := fun _ y => (fun s' => if p.x = x ∧ p.y = y then .error (eRange, s1.at') else .ok (⟨x, y⟩, s') : P Pt)) (loc_part 0 s1) (fun y => ?_)
  refine loc_const _ (fun s2 v s3 h => ?_)
  change (if p.x = x ∧ p.y = y then _ else _) = _ at h
  split at h
  · cases h
  · have := Except.ok.inj h
    injection this with _ h2
    rw [← h2]
theorem loc_paint (k : Nat) : Loc (fun b => DP.paint b k) := by
  intro s
  have e : ∀ b, DP.paint b k = andThen (DP.place b) (fun a => if k = 0 then ret (⟨0, a, 0, ⟨0, 0⟩, ⟨0, 0⟩⟩ : Paint)
    else andThen (DP.place b) fun c => andThen (point b ⟨0, 0⟩) fun p =>
      if k = 1 then andThen (other b p) fun q => ret ⟨1, a, c, p, q⟩
      else andThen (DP.length b) fun r => ret ⟨k, a, c, p, ⟨r, 0⟩⟩) := fun b => rfl
  simp only [e]
  refine loc_bind (loc_place s) (fun a => ?_)
  by_cases h0 : k = 0
  · simp only [if_pos h0]; exact loc_ret _
  · simp only [if_neg h0]
    intro s1
    refine loc_bind (loc_place s1) (fun c s2 => ?_)
    refine loc_bind (loc_point ⟨0, 0⟩ s2) (fun p => ?_)
    by_cases h1 : k = 1
    · simp only [if_pos h1]
      exact fun s3 => loc_bind (loc_other p s3) (fun _ => loc_ret _)
    · simp only [if_neg h1]
      exact fun s3 => loc_bind (loc_length s3) (fun _ => loc_ret _)
theorem loc_pts : ∀ (n : Nat) (acc : List Pt) (q : Pt), Loc (fun b => pts b n acc q)
  | 0, _, _ => loc_ret _
  | n + 1, acc, q => fun s => show LocAt (fun b => andThen (point b q) fun p => pts b n (acc ++ [p]) p) s from loc_bind (loc_point q s) (fun p => loc_pts n (acc ++ [p]) p)
theorem loc_seg (k : Nat) (q : Pt) : Loc (fun b => seg b k q) := fun s =>
  show LocAt (fun b => andThen (pts b k [] q) (fun r => (fun s => .ok ((segOf k r.1, r.2), { s with pts := s.pts + k }) : P (Seg × Pt)))) s from
    loc_bind (f := fun _ r => (fun s => .ok ((segOf k r.1, r.2), { s with pts := s.pts + k }) : P (Seg × Pt))) (loc_pts k [] q s) (fun r => loc_fin _ (fun s => { s with pts := s.pts + k }) (fun _ => rfl))
theorem loc_segs (k : Nat) : ∀ (n : Nat) (acc : List Seg) (q : Pt), Loc (fun b => segs b k n acc q)
  | 0, _, _ => loc_ret _
  | n + 1, acc, q => fun s => show LocAt (fun b => andThen (seg b k q) fun r => segs b k n (acc ++ [r.1]) r.2) s from loc_bind (loc_seg k q s) (fun r => loc_segs k n _ _)
theorem loc_runs : ∀ (n kind : Nat) (acc : List Seg) (q : Pt), Loc (fun b => runs b n kind acc q)
  | 0, _, _, _ => loc_ret _
  | n + 1, kind, acc, q => fun s => show LocAt (fun b => andThen (num b (runRule kind acc.length s.pts)) (fun x => andThen (segs b (x % 4) (x / 4) [] q) fun r => runs b n (x % 4) (acc ++ r.1) r.2)) s from
    loc_bind (loc_num _ s) (fun x s1 => loc_bind (loc_segs _ _ _ _ s1) (fun r => loc_runs n _ _ _))
theorem loc_path : Loc (fun b => DP.path b) := fun s =>
  show LocAt (fun b => andThen (num b (pathRule s.cl)) (fun n => andThen (point b ⟨0, 0⟩) fun p => (fun s1 => andThen (runs b (n / 2) 0 [] p) (fun l => ret (⟨p, nov, l, decide (n % 2 = 1)⟩ : Path)) { s1 with pts := s1.pts + 1 } : P Path))) s from
    loc_bind (loc_num _ s) (fun n s1 => loc_bind (loc_point _ s1) (fun p => loc_upd (p := fun b => andThen (runs b (n / 2) 0 [] p) (fun l => ret (⟨p, nov, l, decide (n % 2 = 1)⟩ : Path))) (fun s => { s with pts := s.pts + 1 }) (fun _ => rfl) (fun s2 => loc_bind (loc_runs _ _ _ _ s2) (fun _ => loc_ret _))))
theorem loc_list {α : Type} {one : List Nat → P α} (h : Loc one) : ∀ (n : Nat) (acc : List α), Loc (fun b => list (one b) n acc)
  | 0, _ => loc_ret _
  | n + 1, acc => fun s => show LocAt (fun b => andThen (one b) fun x => list (one b) n (acc ++ [x])) s from loc_bind (h s) (fun x => loc_list h n _)
theorem loc_cmd : Loc (fun b => DP.cmd b) := by
  intro s
  refine (show LocAt (fun b => andThen (num b cmdRule) fun n => andThen (if n % 2 = 1 then DP.length b else ret 0) fun wd => andThen (DP.paint b (n / 4)) fun p => (fun s => andThen (num b pathsRule) (fun m => andThen (list (DP.path b) m []) fun l => ret (⟨(n % 2 : Nat) + 1, (n / 2 % 2 : Nat), wd, p, nov, l⟩ : Cmd)) { s with cl := decide (n % 2 = 1) } : P Cmd)) s from ?_)
  refine loc_bind (loc_num _ s) (fun n s1 => ?_)
  refine loc_bind (p := fun b => if n % 2 = 1 then DP.length b else ret 0) ?_ (fun wd s2 => ?_)
  · by_cases h : n % 2 = 1
    · simp only [if_pos h]; exact loc_length s1
    · simp only [if_neg h]; exact loc_ret _ s1
  · refine loc_bind (loc_paint _ s2) (fun p => ?_)
    refine loc_upd (p := fun b => andThen (num b pathsRule) (fun m => andThen (list (DP.path b) m []) fun l => ret (⟨(n % 2 : Nat) + 1, (n / 2 % 2 : Nat), wd, p, nov, l⟩ : Cmd))) (fun s => { s with cl := decide (n % 2 = 1) }) (fun _ => rfl) (fun s3 => ?_)
    exact loc_bind (loc_num _ s3) (fun m s4 => loc_bind (loc_list loc_path m [] s4) (fun _ => loc_ret _))

theorem colAt_take (b : List Nat) (i k : Nat) (h : i + 4 ≤ k) : colAt (b.take k) i = colAt b i := by
  have e : ∀ j, j < k → (b.take k).getD j 0 = b.getD j 0 := fun j hj => by
    rw [List.getD_eq_getElem?_getD, List.getD_eq_getElem?_getD, List.getElem?_take, if_pos hj]
  unfold colAt
  rw [e i (by omega), e (i + 1) (by omega), e (i + 2) (by omega), e (i + 3) (by omega)]
theorem loc_col : Loc (fun b => DP.col b) := by
  intro s b v s' e
  change DP.col b s = _ at e
  show s.at' ≤ s'.at' ∧ ∀ k, s.at' ≤ k → (s'.at' ≤ k ∧ DP.col (b.take k) s = _) ∨ (k < s'.at' ∧ ∃ n, DP.col (b.take k) s = _)
  unfold DP.col at e
  split at e
  · cases e
  · rename_i h1
    split at e
    · cases e
    · rename_i h2
      have e' := Except.ok.inj e
      injection e' with e1 e2
      subst e1
      subst e2
      refine ⟨by show s.at' ≤ s.at' + 4; omega, fun k hk => ?_⟩
      by_cases h : s.at' + 4 ≤ k
      · left
        refine ⟨h, ?_⟩
        unfold DP.col
        rw [if_neg (by rw [List.length_take]; omega), colAt_take b _ k h, if_neg h2]
      · right
        refine ⟨by show k < s.at' + 4; omega, s.at', ?_⟩
        unfold DP.col
        rw [if_pos (by rw [List.length_take]; omega)]

theorem loc_tail : Loc (fun b => tail b) := by
  intro s
  refine (show LocAt (fun b => andThen (num b (between 1 4096)) fun wd => andThen (num b (between 1 4096)) fun ht => andThen (num b (between 0 6)) fun sc => (fun s =>
    andThen (num b (atMost 256)) (fun n => andThen (list (DP.col b) n []) fun cs => andThen (num b (atMost 200)) fun m => andThen (list (DP.cmd b) m []) fun ms => ret (⟨wd, ht, sc, nov, cs, nov, ms⟩ : Icon)) { s with far := greatest ⟨wd, ht, sc, nov, [], nov, []⟩ } : P Icon)) s from ?_)
  refine loc_bind (loc_num _ s) (fun wd s1 => ?_)
  refine loc_bind (loc_num _ s1) (fun ht s2 => ?_)
  refine loc_bind (loc_num _ s2) (fun sc => ?_)
  refine loc_upd (p := fun b => andThen (num b (atMost 256)) (fun n => andThen (list (DP.col b) n []) fun cs => andThen (num b (atMost 200)) fun m => andThen (list (DP.cmd b) m []) fun ms => ret (⟨wd, ht, sc, nov, cs, nov, ms⟩ : Icon))) (fun s => { s with far := greatest ⟨wd, ht, sc, nov, [], nov, []⟩ }) (fun _ => rfl) (fun s3 => ?_)
  refine loc_bind (loc_num _ s3) (fun n s4 => ?_)
  refine loc_bind (loc_list loc_col n [] s4) (fun cs s5 => ?_)
  exact loc_bind (loc_num _ s5) (fun m s6 => loc_bind (loc_list loc_cmd m [] s6) (fun _ => loc_ret _))

theorem icon_cut (i : Icon) (h : chk i = 0) (hb : ∀ c ∈ i.cols, (0 ≤ c.r ∧ c.r < 256) ∧ (0 ≤ c.g ∧ c.g < 256) ∧ (0 ≤ c.b ∧ c.b < 256) ∧ (0 ≤ c.a ∧ c.a < 256)) (hl : (EP.icon i).length ≤ 60000) (k : Nat) (hk : k < (EP.icon i).length) : ∃ n, DP.icon ((EP.icon i).take k) = .error (eShort, n) := by
  obtain ⟨s', h1, h2, -, -⟩ := most_right i h hb []
  rw [List.append_nil] at h1
  have hm : ∃ n, most ((EP.icon i).take k) st0 = .error (eShort, n) := by
    by_cases h4 : k < 4
    · refine ⟨0, ?_⟩
      rw [most_is]
      refine andThen_err ?_
      unfold magic
      rw [if_pos (by rw [List.length_take]; omega)]
    · have m4 : ∀ b : List Nat, 4 ≤ b.length → b.take 4 = [71, 76, 89, 49] → magic b st0 = .ok ((), st0.on 4) := fun b g1 g2 => by
        unfold magic
        rw [if_neg (by omega), if_pos g2]
        rfl
      have t4 : (EP.icon i).take 4 = [71, 76, 89, 49] := by rw [icon_is]; rfl
      rw [most_is, andThen_ok (m4 _ (by omega) t4)] at h1
      rw [most_is, andThen_ok (m4 _ (by rw [List.length_take]; omega) (by rw [List.take_take, Nat.min_eq_left (by omega)]; exact t4))]
      rcases (loc_tail (st0.on 4) _ _ _ h1).2 k (by show 4 ≤ k; omega) with ⟨g1, -⟩ | ⟨-, n, g2⟩
      · omega
      · exact ⟨n, g2⟩
  obtain ⟨n, hn⟩ := hm
  refine ⟨n, ?_⟩
  unfold DP.icon body
  rw [if_neg (by rw [List.length_take]; omega), andThen_err hn]

end DP
end Go.Proofs.YtcnlkdoifogkbaaGreatDoor

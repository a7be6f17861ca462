/-
  What Check takes is within bounds: its numbers, and how long its bytes are.
-/
import Derived.Test.YtofmbedjbnbjlaaDoorEncCmd
import Derived.Test.YtofmbedjbnbjlaaDoorIconCheck
namespace Go.Proofs.YtofmbedjbnbjlaaDoor
open Go.RowKit

theorem first_zero {α : Type} (f : α → Nat) : ∀ (l : List α), IC.firstOf f l = 0 → ∀ x ∈ l, f x = 0 := by
  intro l
  induction l with
  | nil => intro _ x hx; simp at hx
  | cons y r ih =>
    intro h x hx
    unfold IC.firstOf at h
    split at h
    · rcases List.mem_cons.1 hx with rfl | hx
      · assumption
      · exact ih h x hx
    · exact absurd h (by assumption)

theorem within_is {n lo hi : Int} (h : IC.within n lo hi = true) : lo ≤ n ∧ n ≤ hi := by
  unfold IC.within at h
  simpa using h
theorem reach_is {far : Int} {p : IC.Pt} (h : IC.reach far p = true) : (-far ≤ p.x ∧ p.x ≤ far) ∧ (-far ≤ p.y ∧ p.y ≤ far) := by
  unfold IC.reach at h
  rw [Bool.and_eq_true] at h
  exact ⟨within_is h.1, within_is h.2⟩
theorem zero_is {p : IC.Pt} (h : IC.zero p = true) : p.x = 0 ∧ p.y = 0 := by
  unfold IC.zero at h
  simpa using h

theorem ptb_reach {far : Int} {p : IC.Pt} (hf : 0 ≤ far ∧ far ≤ 1048576) (h : IC.reach far p = true) : PtB p := by
  have := reach_is h
  unfold PtB
  omega
theorem ptb_zero {p : IC.Pt} (h : IC.zero p = true) : PtB p := by
  have := zero_is h
  unfold PtB
  omega

theorem seg_chk {far : Int} {s : IC.Seg} (hf : 0 ≤ far ∧ far ≤ 1048576) (h : IC.chkSeg far s = 0) : SegB s ∧ (s.k < 2 → s.b.x = 0 ∧ s.b.y = 0) ∧ (s.k < 3 → s.c.x = 0 ∧ s.c.y = 0) := by
  obtain ⟨k, a, b, c⟩ := s
  unfold IC.chkSeg at h
  split at h
  · cases h
  rename_i h1
  split at h
  · cases h
  rename_i h2
  split at h
  · cases h
  rename_i h3
  simp only [Bool.not_eq_true, Bool.not_eq_false'] at h1 h2 h3
  obtain ⟨k1, k3⟩ := within_is h1
  have hk : k = 1 ∨ k = 2 ∨ k = 3 := by omega
  unfold SegB
  rcases hk with rfl | rfl | rfl
  · simp [IC.Seg.pts] at h2 h3
    exact ⟨⟨by simp, ptb_reach hf h2, ptb_zero h3.1, ptb_zero h3.2⟩, fun _ => zero_is h3.1, fun _ => zero_is h3.2⟩
  · simp [IC.Seg.pts] at h2 h3
    exact ⟨⟨by simp, ptb_reach hf h2.1, ptb_reach hf h2.2, ptb_zero h3⟩, fun h => absurd h (by simp), fun _ => zero_is h3⟩
  · simp [IC.Seg.pts] at h2 h3
    exact ⟨⟨by simp, ptb_reach hf h2.1, ptb_reach hf h2.2.1, ptb_reach hf h2.2.2⟩, fun h => absurd h (by simp), fun h => absurd h (by simp)⟩

theorem path_chk {far : Int} {p : IC.Path} (hf : 0 ≤ far ∧ far ≤ 1048576) (h : IC.chkPath far p = 0) : PathB p ∧ p.segs.length ≤ 400 ∧ 1 ≤ p.segs.length := by
  unfold IC.chkPath at h
  split at h
  · cases h
  rename_i h1
  split at h
  · cases h
  rename_i h2
  split at h
  · cases h
  rename_i h3
  simp only [Bool.not_eq_true, Bool.not_eq_false'] at h3
  exact ⟨⟨ptb_reach hf h3, fun s hs => (seg_chk hf (first_zero _ _ h s hs)).1, by omega⟩, by omega, by omega⟩

theorem paint_chk {far n : Int} {p : IC.Paint} (hf : 0 ≤ far ∧ far ≤ 1048576) (hn : n ≤ 256) (h : IC.chkPaint far n p = 0) : PaintB p ∧ (0 ≤ p.k ∧ p.k ≤ 2) := by
  unfold IC.chkPaint at h
  split at h
  · rename_i hk
    have hk : p.k = 0 := by simpa using hk
    unfold IC.chkFlat at h
    split at h
    · cases h
    rename_i h1
    split at h
    · cases h
    rename_i h2
    simp at h1 h2
    obtain ⟨a1, a2⟩ := within_is h1
    refine ⟨⟨⟨a1, by omega⟩, ⟨by omega, by omega⟩, ptb_zero h2.1.2, ptb_zero h2.2, fun h => absurd hk h⟩, by omega, by omega⟩
  · rename_i hk0
    split at h
    · rename_i hk
      have hk : p.k = 1 := by simpa using hk
      unfold IC.chkLinear at h
      split at h
      · cases h
      rename_i h1
      simp at h1
      obtain ⟨a1, a2⟩ := within_is h1.1.1.1.1
      obtain ⟨b1, b2⟩ := within_is h1.1.1.1.2
      exact ⟨⟨⟨a1, by omega⟩, ⟨b1, by omega⟩, ptb_reach hf h1.1.1.2, ptb_reach hf h1.1.2, fun _ h => absurd hk h⟩, by omega, by omega⟩
    · split at h
      · rename_i hk
        have hk : p.k = 2 := by simpa using hk
        unfold IC.chkRadial at h
        split at h
        · cases h
        rename_i h1
        split at h
        · cases h
        rename_i h2
        simp at h1 h2
        obtain ⟨a1, a2⟩ := within_is h1.1.1.1
        obtain ⟨b1, b2⟩ := within_is h1.1.1.2
        obtain ⟨c1, c2⟩ := within_is h1.2
        refine ⟨⟨⟨a1, by omega⟩, ⟨b1, by omega⟩, ptb_reach hf h1.1.2, ?_, fun _ _ => ⟨by omega, by omega⟩⟩, by omega, by omega⟩
        unfold PtB
        omega
      · cases h

theorem cmd_chk {far n : Int} {c : IC.Cmd} (hf : 0 ≤ far ∧ far ≤ 1048576) (hn : n ≤ 256) (h : IC.chkCmd far n c = 0) : CmdB c ∧ c.paths.length ≤ 200 ∧ ∀ p ∈ c.paths, p.segs.length ≤ 400 := by
  unfold IC.chkCmd at h
  split at h
  · cases h
  rename_i h1
  split at h
  · exact absurd h (by assumption)
  rename_i h2
  split at h
  · cases h
  rename_i h3
  split at h
  · cases h
  rename_i h4
  have h2' : IC.chkPaint far n c.pn = 0 := by omega
  have hp := paint_chk hf hn h2'
  have hps : ∀ p ∈ c.paths, IC.chkPath far p = 0 := fun p hp => by
    have := first_zero _ _ h p hp
    unfold IC.chkOne at this
    split at this
    · cases this
    · exact this
  have hh : (c.k = 1 ∧ (c.r = 0 ∨ c.r = 1) ∧ c.wd = 0) ∨ (c.k = 2 ∧ c.r = 0 ∧ 1 ≤ c.wd ∧ c.wd ≤ far) := by
    simp only [Bool.not_eq_true, Bool.not_eq_false'] at h1
    unfold IC.headed at h1
    split at h1
    · rename_i hk; simp at h1 hk; exact .inl ⟨hk, h1.1, h1.2⟩
    · split at h1
      · rename_i hk; simp at h1 hk; exact .inr ⟨hk, h1.1, within_is h1.2⟩
      · cases h1
  refine ⟨⟨by omega, by omega, ⟨by omega, by omega⟩, by omega, hp.1, by omega, fun p hp => (path_chk hf (hps p hp)).1⟩, by omega, fun p hp => (path_chk hf (hps p hp)).2.1⟩

structure IconB (i : IC.Icon) : Prop where
  w : 1 ≤ i.w ∧ i.w ≤ 4096
  h : 1 ≤ i.h ∧ i.h ≤ 4096
  s : 0 ≤ i.s ∧ i.s ≤ 6
  cols : i.cols.length ≤ 256
  cmds : i.cmds.length ≤ 200
  cmd : ∀ c ∈ i.cmds, CmdB c ∧ c.paths.length ≤ 200 ∧ ∀ p ∈ c.paths, p.segs.length ≤ 400

theorem greatest_in {i : IC.Icon} (h : IC.sized i = true) : 0 ≤ IC.greatest i ∧ IC.greatest i ≤ 1048576 := by
  unfold IC.greatest
  rw [if_pos h]
  unfold IC.sized at h
  rw [Bool.and_eq_true, Bool.and_eq_true] at h
  obtain ⟨h1, h2, h3⟩ := h
  have h1 := within_is h1
  have h2 := within_is h2
  have h3 := within_is h3
  have hm : 1 ≤ max i.w i.h ∧ max i.w i.h ≤ 4096 := by rw [Int.max_def]; split <;> omega
  generalize max i.w i.h = x at hm
  have hs : i.s.toNat = 0 ∨ i.s.toNat = 1 ∨ i.s.toNat = 2 ∨ i.s.toNat = 3 ∨ i.s.toNat = 4 ∨ i.s.toNat = 5 ∨ i.s.toNat = 6 := by omega
  rcases hs with e | e | e | e | e | e | e <;> rw [e] <;> simp only [Int.reducePow] <;> omega

theorem icon_chk {i : IC.Icon} (h : IC.chk i = 0) : IconB i := by
  unfold IC.chk at h
  split at h
  · cases h
  rename_i h1
  simp only [Bool.not_eq_true, Bool.not_eq_false'] at h1
  split at h
  · cases h
  rename_i h2
  split at h
  · exact absurd h (by assumption)
  rename_i h3
  have h3' : IC.firstOf (IC.chkCmd (IC.greatest i) i.cols.length) i.cmds = 0 := by omega
  have hg := greatest_in h1
  have h1' := h1
  unfold IC.sized at h1'
  rw [Bool.and_eq_true, Bool.and_eq_true] at h1'
  exact ⟨within_is h1'.1, within_is h1'.2.1, within_is h1'.2.2, by omega, by omega, fun c hc => cmd_chk hg (by omega) (first_zero _ _ h3' c hc)⟩

/-! ### How long the bytes are -/
theorem enc_len {n : Nat} (h : n < 18446744073709551616) : (WP.enc n).length ≤ 10 := WP.sz_le10 h
theorem num_len {n : Int} (h : n < 18446744073709551616) : (EP.num n).length ≤ 10 := enc_len (by omega)
theorem zg_len {z : Int} (h0 : -9223372036854775808 ≤ z) (h1 : z ≤ 9223372036854775807) : (EP.zg z).length ≤ 10 := enc_len (zig_lt h0 h1)
theorem pt_length {p : IC.Pt} (h : PtB p) : (EP.pt p).length ≤ 20 := by
  unfold EP.pt
  rw [List.length_append]
  have h1 := zg_len (z := p.x) (by have := h.1.1; omega) (by have := h.1.2; omega)
  have h2 := zg_len (z := p.y) (by have := h.2.1; omega) (by have := h.2.2; omega)
  omega
theorem dpt_length {q p : IC.Pt} (hq : PtB q) (h : PtB p) : (EP.dpt q p).length ≤ 20 := by
  unfold EP.dpt
  rw [List.length_append]
  have a := hq.1; have b := hq.2; have c := h.1; have d := h.2
  have h1 := zg_len (z := p.x - q.x) (by omega) (by omega)
  have h2 := zg_len (z := p.y - q.y) (by omega) (by omega)
  omega
theorem way_length : ∀ (P : List IC.Pt) (q : IC.Pt), PtB q → (∀ p ∈ P, PtB p) → (EP.way q P).length ≤ 20 * P.length ∧ PtB (EP.lastOf q P) := by
  intro P
  induction P with
  | nil => intro q hq _; exact ⟨by simp [EP.way], hq⟩
  | cons p r ih =>
    intro q hq h
    have hp := h p (by simp)
    have h1 := ih p hp fun x hx => h x (by simp [hx])
    refine ⟨?_, h1.2⟩
    show (EP.dpt q p ++ EP.way p r).length ≤ _
    rw [List.length_append, List.length_cons]
    have := dpt_length hq hp
    omega
theorem pts_b {l : List IC.Seg} (h : ∀ s ∈ l, SegB s) : ∀ p ∈ l.flatMap EP.ptsOf, PtB p := by
  intro p hp
  obtain ⟨s, hs, hp⟩ := List.mem_flatMap.1 hp
  have := List.mem_of_mem_take hp
  simp [IC.Seg.pts] at this
  have hb := h s hs
  rcases this with rfl | rfl | rfl
  · exact hb.2.1
  · exact hb.2.2.1
  · exact hb.2.2.2
theorem flat_le {α β : Type} (f : α → List β) (B : Nat) (l : List α) (h : ∀ x ∈ l, (f x).length ≤ B) : (l.flatMap f).length ≤ B * l.length := by
  induction l with
  | nil => simp
  | cons x r ih =>
    rw [List.flatMap_cons, List.length_append, List.length_cons, Nat.mul_succ]
    have h1 := h x (by simp)
    have h2 := ih fun y hy => h y (by simp [hy])
    omega
theorem runsB_length : ∀ (rs : List (Int × Nat)) (q : IC.Pt) (sg : List IC.Seg), PtB q → (∀ s ∈ sg, SegB s) → (∀ r ∈ rs, r.1 ≤ 1000 ∧ r.2 ≤ 1000000) → (EP.runsB q rs sg).length ≤ 10 * rs.length + 60 * sg.length := by
  intro rs
  induction rs with
  | nil => intro q sg _ _ _; simp [EP.runsB]
  | cons x r ih =>
    intro q sg hq hs hr
    obtain ⟨k, n⟩ := x
    have hx := hr (k, n) (by simp)
    simp only at hx
    have hb := pts_b fun s h => hs s (List.mem_of_mem_take (i := n) h)
    have hw := way_length ((sg.take n).flatMap EP.ptsOf) q hq hb
    have hf := flat_le EP.ptsOf 3 (sg.take n) fun s _ => by unfold EP.ptsOf IC.Seg.pts; rw [List.length_take]; simp; omega
    have hi := ih _ (sg.drop n) hw.2 (fun s h => hs s (List.mem_of_mem_drop h)) fun r hr' => hr r (by simp [hr'])
    have hn : (EP.num ((n : Int) * 4 + k)).length ≤ 10 := num_len (by omega)
    show (EP.num ((n : Int) * 4 + k) ++ EP.way q ((sg.take n).flatMap EP.ptsOf) ++ EP.runsB _ _ _).length ≤ _
    rw [List.length_append, List.length_append, List.length_cons]
    have hlen : (sg.take n).length + (sg.drop n).length = sg.length := by rw [← List.length_append, List.take_append_drop]
    omega
theorem path_length {p : IC.Path} (h : PathB p) (h4 : p.segs.length ≤ 400) : (EP.path p).length ≤ 30000 := by
  unfold EP.path
  rw [List.length_append, List.length_append]
  have h0 := runs_bound p.segs
  have h1 := num_len (n := ((EP.runs p.segs).length * 2 + if p.cl = true then 1 else 0)) (by split <;> omega)
  have h2 := pt_length h.1
  have h3 := runsB_length (EP.runs p.segs) p.st p.segs h.1 h.2.1 fun r hr => by
    refine ⟨?_, Nat.le_trans (runs_count hr) (by omega)⟩
    have hk := (EP.runsOf_is (p.segs.map IC.Seg.k)).2
    have hr1 := hk.1 r hr
    have hm : r.1 ∈ EP.kindsOf (EP.runs p.segs) := List.mem_flatMap.2 ⟨r, hr, by simp; omega⟩
    have hm' : r.1 ∈ p.segs.map IC.Seg.k := by rw [← hk.2]; exact hm
    obtain ⟨s, hs, e⟩ := List.mem_map.1 hm'
    have := (h.2.1 s hs).1
    omega
  omega
theorem paint_length {p : IC.Paint} (h : PaintB p) : (EP.paint p).length ≤ 100 := by
  unfold EP.paint
  have h1 := num_len (n := p.a) (by have := h.na.2; omega)
  have h2 := num_len (n := p.b) (by have := h.nb.2; omega)
  have h3 := pt_length h.pp
  have h4 := pt_length h.pq
  rw [List.length_append]
  by_cases hk : p.k = 0
  · simp [hk]; omega
  · by_cases hk1 : p.k = 1
    · simp [hk1]; omega
    · have h5 := num_len (n := p.q.x) (by have := (h.px hk hk1).2; omega)
      simp [hk, hk1]; omega
theorem cmd_length {c : IC.Cmd} (h : CmdB c) (h2 : c.paths.length ≤ 200) (h4 : ∀ p ∈ c.paths, p.segs.length ≤ 400) : (EP.cmd c).length ≤ 7000000 := by
  have hf := flat_le EP.path 30000 c.paths fun p hp => path_length (h.paths p hp) (h4 p hp)
  have h1 := num_len (n := c.k - 1 + c.r * 2 + c.pn.k * 4) (by have := h.k; have := h.r; have := h.pk; omega)
  have h3 := num_len (n := c.wd) (by have := h.wd.2; omega)
  have h5 := paint_length h.pn
  have h6 := num_len (n := (c.paths.length : Int)) (by omega)
  unfold EP.cmd
  rw [List.length_append, List.length_append, List.length_append, List.length_append]
  by_cases hk : c.k = 2
  · rw [if_pos (by simp [hk])]; omega
  · rw [if_neg (by simp [hk]), List.length_nil]; omega
theorem icon_length {i : IC.Icon} (h : IconB i) : (EP.icon i).length ≤ 10000000000 := by
  have hf := flat_le EP.cmd 7000000 i.cmds fun c hc => cmd_length (h.cmd c hc).1 (h.cmd c hc).2.1 (h.cmd c hc).2.2
  have hg := flat_le EP.col 4 i.cols fun c _ => by simp [EP.col]
  have h1 := num_len (n := i.w) (by have := h.w; omega)
  have h2 := num_len (n := i.h) (by have := h.h; omega)
  have h3 := num_len (n := i.s) (by have := h.s; omega)
  have h4 := num_len (n := (i.cols.length : Int)) (by have := h.cols; omega)
  have h5 := num_len (n := (i.cmds.length : Int)) (by have := h.cmds; omega)
  have h6 := h.cols
  have h7 := h.cmds
  unfold EP.icon
  simp only [List.length_append, List.length_cons, List.length_nil]
  omega

end Go.Proofs.YtofmbedjbnbjlaaDoor

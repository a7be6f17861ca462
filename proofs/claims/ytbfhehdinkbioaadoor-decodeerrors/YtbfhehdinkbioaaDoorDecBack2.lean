/-
  A right icon's bytes are read as it was: paths, commands, the whole; one byte more is told.
-/
import Derived.Test.YtbfhehdinkbioaaDoorDecBack
namespace Go.Proofs.YtbfhehdinkbioaaDoor
namespace DP
open IC

def barePath (p : Path) : Path := { p with vs := nov }
def bareCmd (c : Cmd) : Cmd := { c with vp := nov, paths := c.paths.map barePath }
/-- An icon without its lists' handles. -/
def bare (i : Icon) : Icon := { i with vc := nov, vm := nov, cmds := i.cmds.map bareCmd }

theorem kinds_len (rs : List (Int × Nat)) (h : ∀ r ∈ rs, 1 ≤ r.2) : rs.length ≤ (EP.kindsOf rs).length := by
  induction rs with
  | nil => simp
  | cons x r ih =>
    have := ih (fun y hy => h y (by simp [hy]))
    have h1 := h x (by simp)
    simp [EP.kindsOf] at this ⊢
    omega

theorem within_is {n lo hi : Int} (h : within n lo hi = true) : lo ≤ n ∧ n ≤ hi := by unfold within at h; simpa using h

theorem reads_pt (p : Pt) (s : St) (hp : reach s.far p = true) (hf : 0 ≤ s.far ∧ s.far ≤ 1048576) : Reads (fun b => point b ⟨0, 0⟩) (EP.pt p) p s s := by
  have h := reads_point ⟨0, 0⟩ p s hp (by simp [reach, within]; omega) hf.2
  have e : EP.dpt ⟨0, 0⟩ p = EP.pt p := by simp [EP.dpt, EP.pt]
  rwa [e] at h

theorem reads_path (s : St) (k : Int) (hk : s.cl = decide (k = 2)) (hk2 : k = 1 ∨ k = 2) (hf : 0 ≤ s.far ∧ s.far ≤ 1048576) (p : Path) (hp : chkOne s.far k p = 0) (h4 : (s.pts : Int) + pathPts p ≤ 4000) : Reads (fun b => path b) (EP.path p) (barePath p) s (s.more (pathPts p).toNat) := by
  unfold chkOne at hp
  split at hp
  · cases hp
  rename_i hcl
  unfold chkPath at hp
  split at hp
  · cases hp
  rename_i h1
  split at hp
  · cases hp
  rename_i h2
  split at hp
  · cases hp
  rename_i h3
  simp only [Bool.not_eq_true, Bool.not_eq_false'] at h3
  have hl := first_zero _ _ hp
  obtain ⟨hA, hR, hK⟩ := EP.runsOf_is (p.segs.map Seg.k)
  obtain ⟨rs, hrs⟩ : ∃ rs, EP.runs p.segs = rs := ⟨_, rfl⟩
  have hrs' : EP.runsOf (p.segs.map Seg.k) = rs := hrs
  rw [hrs'] at hA hR hK
  have hlen := kinds_len rs hR
  rw [hK, List.length_map] at hlen
  have hne : 1 ≤ rs.length := by
    cases rs with
    | nil => simp [EP.kindsOf] at hK; rw [hK] at h1; simp at h1
    | cons x r => simp
  have hA' : EP.Apart ((((0 : Nat) : Int), 0) :: rs) := by
    cases rs with
    | nil => trivial
    | cons x r =>
      refine ⟨?_, hA⟩
      have hx : x.1 ∈ EP.kindsOf (x :: r) := by
        have := hR x (by simp)
        simp [EP.kindsOf]
        left; omega
      rw [hK] at hx
      obtain ⟨g, hg, e⟩ := List.mem_map.1 hx
      obtain ⟨k', k1, _, k2, _⟩ := seg_is (hl g hg)
      rw [← e, k2]
      show (0 : Int) ≠ k'
      omega
  have hpp : pathPts p = 1 + sumOf segPts p.segs := rfl
  have h0 := sum_nonneg p.segs
  have e3 := reads_runs s.far hf.2 rs ({ s with pts := s.pts + 1 } : St) p.segs [] p.st 0 0 rfl hK hA' hR hl h3 (by simp; omega) (by show ((s.pts + 1 : Nat) : Int) + _ ≤ _; omega)
  obtain ⟨c, hc⟩ : ∃ c : Nat, (if p.cl then (1 : Int) else 0) = c ∧ c ≤ 1 ∧ (p.cl = decide (c = 1)) := by
    cases p.cl
    · exact ⟨0, by simp⟩
    · exact ⟨1, by simp⟩
  have x2 : (rs.length * 2 + c) / 2 = rs.length := by omega
  have x3 : (rs.length * 2 + c) % 2 = c := by omega
  have e1 := reads_num (pathRule s.cl) (rs.length * 2 + c) s (by
    unfold pathRule
    rw [x2, x3, if_neg (by omega), if_neg]
    rintro ⟨c1, c2⟩
    rw [c2] at hk
    have hk1 : k = 1 := by
      rcases hk2 with h | h
      · exact h
      · rw [h] at hk; simp at hk
    rw [hk1, hc.2.2, c1] at hcl
    simp at hcl) (by omega)
  have e2 := reads_pt p.st s h3 hf
  have e4 : Reads (fun b s1 => andThen (runs b rs.length 0 [] p.st) (fun l => ret (⟨p.st, nov, l, p.cl⟩ : Path)) { s1 with pts := s1.pts + 1 }) (EP.runsB p.st rs p.segs) (barePath p) s (s.more (pathPts p).toNat) := by
    have := reads_map (g := fun l => (⟨p.st, nov, l, p.cl⟩ : Path)) (u := barePath p) e3 rfl
    intro pre rest
    have e := this pre rest
    rw [show (s.more (pathPts p).toNat) = ({ s with pts := s.pts + 1 } : St).more (sumOf segPts p.segs).toNat by simp only [St.more]; congr 1; omega]
    exact e
  have e5 := reads_bind (f := fun b n => andThen (point b ⟨0, 0⟩) fun p' s1 => andThen (runs b (n / 2) 0 [] p') (fun l => ret (⟨p', nov, l, decide (n % 2 = 1)⟩ : Path)) { s1 with pts := s1.pts + 1 }) e1 (by
    simp only [x2, x3, ← hc.2.2]
    exact reads_bind e2 e4)
  have hB : EP.path p = WP.enc (rs.length * 2 + c) ++ (EP.pt p.st ++ EP.runsB p.st rs p.segs) := by
    unfold EP.path EP.num
    rw [hrs, hc.1, List.append_assoc]
    congr 2
  rw [hB]
  intro pre rest
  exact e5 pre rest

/-- Of each of a list, in what state it is met. -/
def OkAll {α : Type} (ok : α → St → Prop) (T : α → St → St) : List α → St → Prop
  | [], _ => True
  | x :: r, s => ok x s ∧ OkAll ok T r (T x s)
def endOf {α : Type} (T : α → St → St) : List α → St → St
  | [], s => s
  | x :: r, s => endOf T r (T x s)

theorem reads_list {α : Type} (one : List Nat → P α) (e : α → List Nat) (g : α → α) (ok : α → St → Prop) (T : α → St → St) (h : ∀ x s, ok x s → Reads one (e x) (g x) s (T x s)) (l : List α) : ∀ (s : St) (acc : List α), OkAll ok T l s →
    Reads (fun b => list (one b) l.length acc) (l.flatMap e) (acc ++ l.map g) s (endOf T l s) := by
  induction l with
  | nil => intro s acc _; rw [List.map_nil, List.append_nil]; exact reads_ret acc s
  | cons x r ih =>
    intro s acc hk
    have h2 := ih (T x s) (acc ++ [g x]) hk.2
    rw [List.append_assoc] at h2
    exact reads_bind (h x s hk.1) h2

theorem toNat_eq {z : Int} (h : 0 ≤ z) : ((z.toNat : Nat) : Int) = z := Int.toNat_of_nonneg h

theorem reads_place (s : St) (a u : Int) (ha : 0 ≤ a ∧ a ≤ s.cols.length - 1) (h5 : s.cols.length ≤ 256) (hu : IC.place s.used a = some u) : Reads (fun b => DP.place b) (EP.num a) a.toNat s { s with used := u.toNat } := by
  unfold IC.place at hu
  split at hu
  · cases hu
  rename_i h1
  have hx : ((a.toNat : Nat) : Int) = a := toNat_eq ha.1
  have e1 := reads_num (placeRule s.cols.length s.used) a.toNat s (by unfold placeRule; rw [if_neg (by omega), if_neg (by omega)]) (by omega)
  have hu' : (if a.toNat = s.used then s.used + 1 else s.used) = u.toNat := by
    split at hu
    · cases hu; rw [if_pos (by omega)]; omega
    · cases hu; rw [if_neg (by omega)]; omega
  intro pre rest
  show andThen (num (pre ++ (WP.enc a.toNat ++ rest)) (placeRule s.cols.length s.used)) _ _ = _
  rw [andThen_ok (e1 pre rest)]
  show Except.ok (a.toNat, ({ s with at' := _, used := if a.toNat = s.used then s.used + 1 else s.used } : St)) = _
  rw [hu']
  rfl

theorem reads_len (s : St) (z : Int) (hz : 1 ≤ z ∧ z ≤ s.far) (hf : s.far ≤ 1048576) : Reads (fun b => DP.length b) (EP.num z) z.toNat s s := by
  have e1 := reads_num (between 1 s.far.toNat) z.toNat s (by unfold between; rw [if_neg (by omega)]) (by omega)
  intro pre rest
  exact e1 pre rest

/-- The colors used behind a command. -/
def after (u : Int) (c : Paint) : Option Int := match IC.place u c.a with
  | none => none
  | some u1 => IC.place u1 c.b

theorem place_pos {u a v : Int} (hu : 0 ≤ u) (ha : 0 ≤ a) (h : IC.place u a = some v) : 1 ≤ v := by
  unfold IC.place at h
  split at h
  · cases h
  · split at h
    · cases h; omega
    · cases h; omega

theorem reads_paint (s : St) (hf : 0 ≤ s.far ∧ s.far ≤ 1048576) (h5 : s.cols.length ≤ 256) (p : Paint) (hp : chkPaint s.far s.cols.length p = 0) (u : Int) (hu : after s.used p = some u) : Reads (fun b => paint b p.k.toNat) (EP.paint p) p s { s with used := u.toNat } := by
  obtain ⟨k, a, c, pp, q⟩ := p
  unfold after at hu
  simp only at hu
  split at hu
  · cases hu
  rename_i u1 hu1
  have e2' : ∀ (s' : St) (v : Int), 0 ≤ v → ((v.toNat : Nat) : Int) = v := fun _ v h => toNat_eq h
  unfold chkPaint at hp
  split at hp
  · rename_i hk
    have hk : k = 0 := by simpa using hk
    subst hk
    unfold chkFlat at hp
    split at hp
    · cases hp
    rename_i h1
    split at hp
    · cases hp
    rename_i h2
    simp at h1 h2
    have ha := within_is h1
    obtain ⟨⟨rfl, h3⟩, h4⟩ := h2
    have h6 := place_pos (by omega) ha.1 hu1
    have e : u = u1 := by
      unfold IC.place at hu
      rw [if_neg (by omega), if_neg (by omega)] at hu
      cases hu; rfl
    subst e
    have e1 := reads_place s a u ha h5 hu1
    have := reads_map (g := fun (n : Nat) => (⟨0, n, 0, ⟨0, 0⟩, ⟨0, 0⟩⟩ : Paint)) (u := (⟨0, a, 0, pp, q⟩ : Paint)) e1 (by rw [toNat_eq ha.1, zero_pt h3, zero_pt h4])
    have hB : EP.paint ⟨0, a, 0, pp, q⟩ = EP.num a := by simp [EP.paint]
    rw [hB]
    intro pre rest
    exact this pre rest
  · rename_i hk0
    split at hp
    · rename_i hk
      have hk : k = 1 := by simpa using hk
      subst hk
      unfold chkLinear at hp
      split at hp
      · cases hp
      rename_i h1
      simp at h1
      have ha := within_is h1.1.1.1.1
      have hc := within_is h1.1.1.1.2
      have hne : ¬ (pp.x = q.x ∧ pp.y = q.y) := by
        have := h1.2
        unfold samePt at this
        simpa using this
      have e1 := reads_place s a u1 ha h5 hu1
      have h6 := place_pos (by omega) ha.1 hu1
      have e2 := reads_place { s with used := u1.toNat } c u hc h5 (by show IC.place ((u1.toNat : Nat) : Int) c = _; rw [toNat_eq (by omega)]; exact hu)
      have e3 := reads_pt pp ({ s with used := u.toNat } : St) h1.1.1.2 hf
      have e4 : Reads (fun b => other b pp) (EP.pt q) q ({ s with used := u.toNat } : St) ({ s with used := u.toNat } : St) := by
        have hq := h1.1.2
        simp [reach, within] at hq
        have z : -s.far ≤ (0 : Int) ∧ (0 : Int) ≤ s.far := by omega
        have r1 := reads_part q.x 0 ({ s with used := u.toNat } : St) hq.1 z hf.2
        have r2 := reads_part q.y 0 ({ s with used := u.toNat } : St) hq.2 z hf.2
        rw [Int.sub_zero] at r1 r2
        refine reads_bind r1 ?_
        intro pre rest
        show andThen _ _ _ = _
        rw [andThen_ok (r2 pre rest)]
        show (if pp.x = q.x ∧ pp.y = q.y then _ else _) = _
        rw [if_neg hne]
      have := reads_bind (f := fun b (n : Nat) => andThen (place b) fun (c : Nat) => andThen (point b ⟨0, 0⟩) fun p => andThen (other b p) fun q => ret (⟨1, n, c, p, q⟩ : Paint)) e1 (reads_bind e2 (reads_bind e3 (reads_map (g := fun q => (⟨1, a.toNat, c.toNat, pp, q⟩ : Paint)) e4 rfl)))
      rw [toNat_eq ha.1, toNat_eq hc.1] at this
      have hB : EP.paint ⟨1, a, c, pp, q⟩ = EP.num a ++ (EP.num c ++ (EP.pt pp ++ EP.pt q)) := by simp [EP.paint]
      rw [hB]
      intro pre rest
      exact this pre rest
    · split at hp
      · rename_i hk
        have hk : k = 2 := by simpa using hk
        subst hk
        unfold chkRadial at hp
        split at hp
        · cases hp
        rename_i h1
        split at hp
        · cases hp
        rename_i h2
        simp at h1 h2
        have ha := within_is h1.1.1.1
        have hc := within_is h1.1.1.2
        have hq := within_is h1.2
        have e1 := reads_place s a u1 ha h5 hu1
        have h6 := place_pos (by omega) ha.1 hu1
        have e2 := reads_place { s with used := u1.toNat } c u hc h5 (by show IC.place ((u1.toNat : Nat) : Int) c = _; rw [toNat_eq (by omega)]; exact hu)
        have e3 := reads_pt pp ({ s with used := u.toNat } : St) h1.1.2 hf
        have e4 := reads_len ({ s with used := u.toNat } : St) q.x hq hf.2
        have := reads_bind (f := fun b (n : Nat) => andThen (place b) fun (c : Nat) => andThen (point b ⟨0, 0⟩) fun p => andThen (DP.length b) fun r => ret (⟨2, n, c, p, ⟨(r : Nat), 0⟩⟩ : Paint)) e1 (reads_bind e2 (reads_bind e3 (reads_map (g := fun (r : Nat) => (⟨2, a.toNat, c.toNat, pp, ⟨r, 0⟩⟩ : Paint)) e4 rfl)))
        rw [toNat_eq ha.1, toNat_eq hc.1, toNat_eq (by omega)] at this
        have hB : EP.paint ⟨2, a, c, pp, q⟩ = EP.num a ++ (EP.num c ++ (EP.pt pp ++ EP.num q.x)) := by simp [EP.paint]
        have hq2 : q = ⟨q.x, 0⟩ := by obtain ⟨x, y⟩ := q; simp at h2 ⊢; exact h2
        rw [hB]
        rw [hq2]
        intro pre rest
        exact this pre rest
      · cases hp

def pathT (p : Path) (s : St) : St := s.more (pathPts p).toNat
def cmdT (c : Cmd) (s : St) : St := { s with used := ((after s.used c.pn).getD 0).toNat, pts := s.pts + (cmdPts c).toNat, cl := decide (c.k = 2) }

theorem pathPts_pos (p : Path) : 0 ≤ pathPts p := by have := sum_nonneg p.segs; unfold pathPts; omega
theorem sumPaths_pos (l : List Path) : 0 ≤ sumOf pathPts l := by
  induction l with
  | nil => simp [sumOf]
  | cons g r ih => have := pathPts_pos g; simp only [sumOf]; omega
theorem cmdPts_pos (c : Cmd) : 0 ≤ cmdPts c := sumPaths_pos c.paths
theorem sumCmds_pos (l : List Cmd) : 0 ≤ sumOf cmdPts l := by
  induction l with
  | nil => simp [sumOf]
  | cons g r ih => have := cmdPts_pos g; simp only [sumOf]; omega

theorem paths_ok (far : Int) (k : Int) (l : List Path) : ∀ s : St, s.far = far → s.cl = decide (k = 2) → (∀ p ∈ l, chkOne far k p = 0) → (s.pts : Int) + sumOf pathPts l ≤ 4000 →
    OkAll (fun p s => s.far = far ∧ s.cl = decide (k = 2) ∧ chkOne far k p = 0 ∧ (s.pts : Int) + pathPts p ≤ 4000) pathT l s ∧ endOf pathT l s = s.more (sumOf pathPts l).toNat := by
  induction l with
  | nil => intro s _ _ _ _; exact ⟨trivial, by simp [endOf, sumOf, St.more]⟩
  | cons p r ih =>
    intro s h1 h2 h3 h4
    have p0 := pathPts_pos p
    have r0 := sumPaths_pos r
    simp only [sumOf] at h4
    have := ih (pathT p s) h1 h2 (fun x hx => h3 x (by simp [hx])) (by simp only [pathT, St.more]; omega)
    refine ⟨⟨⟨h1, h2, h3 p (by simp), by omega⟩, this.1⟩, ?_⟩
    show endOf pathT r (pathT p s) = _
    rw [this.2]
    simp only [pathT, more_more, sumOf]
    congr 1
    omega

theorem reads_cmd (s : St) (hf : 0 ≤ s.far ∧ s.far ≤ 1048576) (h5 : s.cols.length ≤ 256) (c : Cmd) (hc : chkCmd s.far s.cols.length c = 0) (u : Int) (hu : after s.used c.pn = some u) (h4 : (s.pts : Int) + cmdPts c ≤ 4000) : Reads (fun b => cmd b) (EP.cmd c) (bareCmd c) s (cmdT c s) := by
  unfold chkCmd at hc
  split at hc
  · cases hc
  rename_i h1
  split at hc
  · exact absurd hc (by assumption)
  rename_i h2
  split at hc
  · cases hc
  rename_i h3
  split at hc
  · cases hc
  rename_i h6
  have h2' : chkPaint s.far s.cols.length c.pn = 0 := by omega
  have hl := first_zero _ _ hc
  simp at h1
  obtain ⟨k, r, wd, pn, vp, paths⟩ := c
  simp only at h1 h2' h3 h6 hl hu h4
  have hk3 : 0 ≤ pn.k ∧ pn.k ≤ 2 := by
    unfold chkPaint at h2'
    split at h2'
    · rename_i e; simp at e; omega
    · split at h2'
      · rename_i e; simp at e; omega
      · split at h2'
        · rename_i e; simp at e; omega
        · cases h2'
  obtain ⟨kp, hkp⟩ : ∃ kp : Nat, pn.k = kp ∧ kp ≤ 2 := ⟨pn.k.toNat, by omega, by omega⟩
  -- the head
  obtain ⟨kn, rn, hkn, hrn, hkr, hkk, hwd⟩ : ∃ kn rn : Nat, k = kn + 1 ∧ r = rn ∧ kn + 2 * rn ≤ 2 ∧ kn ≤ 1 ∧ ((kn = 0 ∧ wd = 0) ∨ (kn = 1 ∧ 1 ≤ wd ∧ wd ≤ s.far)) := by
    unfold headed at h1
    split at h1
    · rename_i e
      have e : k = 1 := by simpa using e
      simp at h1
      rcases h1.1 with h | h
      · exact ⟨0, 0, by omega, by omega, by omega, by omega, .inl ⟨rfl, h1.2⟩⟩
      · exact ⟨0, 1, by omega, by omega, by omega, by omega, .inl ⟨rfl, h1.2⟩⟩
    · split at h1
      · rename_i e
        have e : k = 2 := by simpa using e
        simp at h1
        have hw := within_is h1.2
        exact ⟨1, 0, by omega, by omega, by omega, by omega, .inr ⟨rfl, hw⟩⟩
      · cases h1
  obtain ⟨N, hN⟩ : ∃ N, kn + 2 * rn + 4 * kp = N := ⟨_, rfl⟩
  have n4 : N / 4 = kp := by omega
  have n2 : N % 2 = kn := by omega
  have n3 : N / 2 % 2 = rn := by omega
  have e1 := reads_num cmdRule N s (by unfold cmdRule; rw [if_neg (by omega)]) (by omega)
  have e2 : Reads (fun b => if N % 2 = 1 then DP.length b else ret 0) (if k == 2 then EP.num wd else []) wd.toNat s s := by
    rcases hwd with ⟨a1, a2⟩ | ⟨a1, a2⟩
    · have : (k == 2) = false := by simp; omega
      rw [this, n2, a1, a2]
      exact reads_ret _ _
    · have : (k == 2) = true := by simp; omega
      rw [this, n2, a1]
      exact reads_len s wd a2 hf.2
  have e3 := reads_paint s hf h5 pn h2' u hu
  rw [show pn.k.toNat = kp by omega] at e3
  have hcl : decide (kn = 1) = decide (k = 2) := by
    congr 1
    exact propext ⟨fun h => by omega, fun h => by omega⟩
  obtain ⟨s2, hs2⟩ : ∃ s2 : St, s2 = { s with used := u.toNat, cl := decide (k = 2) } := ⟨_, rfl⟩
  have e4 := reads_num pathsRule paths.length s2 (by unfold pathsRule atMost; rw [if_neg h3, if_neg h6]) (by omega)
  have hP := paths_ok s.far k paths s2 (by rw [hs2]) (by rw [hs2]) hl (by rw [hs2]; exact h4)
  have e5 := reads_list (fun b => path b) EP.path barePath _ pathT (fun p s' h => reads_path s' k h.2.1 (by omega) (by rw [h.1]; exact hf) p (by rw [h.1]; exact h.2.2.1) h.2.2.2) paths s2 [] hP.1
  rw [hP.2, List.nil_append] at e5
  have hend : s2.more (sumOf pathPts paths).toNat = cmdT ⟨k, r, wd, pn, vp, paths⟩ s := by
    rw [hs2]
    simp only [cmdT, St.more, hu, cmdPts, Option.getD]
  rw [hend] at e5
  have e6 : Reads (fun b s' => andThen (num b pathsRule) (fun m => andThen (list (path b) m []) fun l => ret (⟨(kn : Nat) + 1, (rn : Nat), wd.toNat, pn, nov, l⟩ : Cmd)) { s' with cl := decide (kn = 1) }) (EP.num paths.length ++ paths.flatMap EP.path) (bareCmd ⟨k, r, wd, pn, vp, paths⟩) { s with used := u.toNat } (cmdT ⟨k, r, wd, pn, vp, paths⟩ s) := by
    have := reads_bind (f := fun b m => andThen (list (path b) m []) fun l => ret (⟨(kn : Nat) + 1, (rn : Nat), wd.toNat, pn, nov, l⟩ : Cmd)) e4 (reads_map (g := fun l => (⟨(kn : Nat) + 1, (rn : Nat), wd.toNat, pn, nov, l⟩ : Cmd)) (u := bareCmd ⟨k, r, wd, pn, vp, paths⟩) e5 (by
      unfold bareCmd
      simp only [Cmd.mk.injEq, and_true]
      exact ⟨hkn.symm, hrn.symm, by omega⟩))
    rw [hs2] at this
    rw [hcl]
    intro pre rest
    exact this pre rest
  have e7 := reads_bind (f := fun b n => andThen (if n % 2 = 1 then DP.length b else ret 0) fun wd => andThen (paint b (n / 4)) fun p s => andThen (num b pathsRule) (fun m => andThen (list (path b) m []) fun l => ret (⟨(n % 2 : Nat) + 1, (n / 2 % 2 : Nat), wd, p, nov, l⟩ : Cmd)) { s with cl := decide (n % 2 = 1) }) e1 (by
    have := reads_bind (f := fun b (wd : Nat) => andThen (paint b kp) fun p s => andThen (num b pathsRule) (fun m => andThen (list (path b) m []) fun l => ret (⟨(kn : Nat) + 1, (rn : Nat), wd, p, nov, l⟩ : Cmd)) { s with cl := decide (kn = 1) }) e2 (reads_bind (f := fun b p s => andThen (num b pathsRule) (fun m => andThen (list (path b) m []) fun l => ret (⟨(kn : Nat) + 1, (rn : Nat), wd.toNat, p, nov, l⟩ : Cmd)) { s with cl := decide (kn = 1) }) e3 e6)
    simp only [n2, n3, n4] at this ⊢
    exact this)
  have hB : EP.cmd ⟨k, r, wd, pn, vp, paths⟩ = WP.enc N ++ ((if k == 2 then EP.num wd else []) ++ (EP.paint pn ++ (EP.num paths.length ++ paths.flatMap EP.path))) := by
    unfold EP.cmd
    simp only
    have : k - 1 + r * 2 + pn.k * 4 = (N : Int) := by omega
    rw [this]
    simp [EP.num]
  rw [hB]
  intro pre rest
  exact e7 pre rest

end DP
end Go.Proofs.YtbfhehdinkbioaaDoor

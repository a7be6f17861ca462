/-
  A right icon's bytes are read as it was; with one byte more they are not: the whole.
-/
import Derived.Test.YtbfhehdinkbioaaDoorDecBack2
namespace Go.Proofs.YtbfhehdinkbioaaDoor
namespace DP
open IC

def colT (c : Col) (s : St) : St := { s with cols := s.cols ++ [c] }
def colOk (c : Col) (s : St) : Prop := (0 ≤ c.r ∧ c.r < 256) ∧ (0 ≤ c.g ∧ c.g < 256) ∧ (0 ≤ c.b ∧ c.b < 256) ∧ (0 ≤ c.a ∧ c.a < 256) ∧ s.cols.any (sameCol c) = false

theorem getD_at (pre x rest : List Nat) (i j : Nat) (hi : i = pre.length + j) (h : j < x.length) : (pre ++ (x ++ rest)).getD i 0 = x[j] := by
  subst hi
  rw [List.getD_eq_getElem?_getD, List.getElem?_append_right (by omega), Nat.add_sub_cancel_left, List.getElem?_append_left h]
  simp [h]

theorem reads_col (c : Col) (s : St) (h : colOk c s) : Reads (fun b => col b) (EP.col c) c s (colT c s) := by
  obtain ⟨h1, h2, h3, h4, h5⟩ := h
  intro pre rest
  have hl : (EP.col c).length = 4 := rfl
  have e : colAt (pre ++ (EP.col c ++ rest)) pre.length = c := by
    unfold colAt
    rw [getD_at pre (EP.col c) rest pre.length 0 rfl (by omega), getD_at pre (EP.col c) rest (pre.length + 1) 1 rfl (by omega), getD_at pre (EP.col c) rest (pre.length + 2) 2 rfl (by omega), getD_at pre (EP.col c) rest (pre.length + 3) 3 rfl (by omega)]
    simp only [EP.col, List.getElem_cons_zero, List.getElem_cons_succ]
    rw [toNat_eq h1.1, toNat_eq h2.1, toNat_eq h3.1, toNat_eq h4.1]
  have h5' : (s.on pre.length).cols.any (sameCol c) = false := h5
  show col _ _ = _
  unfold col
  rw [show (s.on pre.length).at' = pre.length from rfl, e, h5', if_neg (by simp; omega), if_neg (by simp), hl]
  rfl

theorem cols_ok (l : List Col) (hb : ∀ c ∈ l, (0 ≤ c.r ∧ c.r < 256) ∧ (0 ≤ c.g ∧ c.g < 256) ∧ (0 ≤ c.b ∧ c.b < 256) ∧ (0 ≤ c.a ∧ c.a < 256)) : ∀ s : St, twinsFrom s.cols l = false → OkAll colOk colT l s ∧ endOf colT l s = { s with cols := s.cols ++ l } := by
  induction l with
  | nil => intro s _; exact ⟨trivial, by simp [endOf]⟩
  | cons c r ih =>
    intro s h
    unfold twinsFrom at h
    simp only [Bool.or_eq_false_iff] at h
    have := ih (fun x hx => hb x (by simp [hx])) (colT c s) h.2
    refine ⟨⟨?_, this.1⟩, ?_⟩
    · obtain ⟨b1, b2, b3, b4⟩ := hb c (by simp)
      exact ⟨b1, b2, b3, b4, h.1⟩
    · show endOf colT r (colT c s) = _
      rw [this.2]
      simp [colT]

theorem used_after (u : Int) (c : Cmd) (r : List Cmd) (v : Int) (h : usedFrom u (c :: r) = some v) : ∃ w, after u c.pn = some w ∧ usedFrom w r = some v := by
  unfold usedFrom at h
  split at h
  · cases h
  rename_i u1 h1
  split at h
  · cases h
  rename_i u2 h2
  exact ⟨u2, by unfold after; rw [h1]; exact h2, h⟩

theorem place_ge {u a v : Int} (h : IC.place u a = some v) : u ≤ v := by
  unfold IC.place at h
  split at h
  · cases h
  · split at h <;> (cases h; omega)
theorem after_ge {u v : Int} {p : Paint} (h : after u p = some v) : u ≤ v := by
  unfold after at h
  split at h
  · cases h
  rename_i h1
  have := place_ge h1
  have := place_ge h
  omega

theorem cmds_ok (far : Int) (n : Nat) (l : List Cmd) : ∀ (s : St) (v : Int), s.far = far → s.cols.length = n → (∀ c ∈ l, chkCmd far n c = 0) → usedFrom s.used l = some v → (s.pts : Int) + sumOf cmdPts l ≤ 4000 →
    OkAll (fun c s => s.far = far ∧ s.cols.length = n ∧ chkCmd far n c = 0 ∧ (∃ u, after s.used c.pn = some u) ∧ (s.pts : Int) + cmdPts c ≤ 4000) cmdT l s ∧ (endOf cmdT l s).used = v.toNat ∧ (endOf cmdT l s).cols = s.cols := by
  induction l with
  | nil => intro s v _ _ _ h _; simp [usedFrom] at h; exact ⟨trivial, by show s.used = _; omega, rfl⟩
  | cons c r ih =>
    intro s v h1 h2 h3 h4 h5
    obtain ⟨w, hw, h4'⟩ := used_after _ _ _ _ h4
    have p0 := cmdPts_pos c
    have r0 := sumCmds_pos r
    have w0 := after_ge hw
    simp only [sumOf] at h5
    have := ih (cmdT c s) v h1 h2 (fun x hx => h3 x (by simp [hx])) (by
      show usedFrom ((((after s.used c.pn).getD 0).toNat : Nat) : Int) r = some v
      rw [hw, Option.getD_some, toNat_eq (by omega)]
      exact h4') (by simp only [cmdT]; omega)
    exact ⟨⟨⟨h1, h2, h3 c (by simp), ⟨w, hw⟩, by omega⟩, this.1⟩, this.2.1, this.2.2⟩

theorem greatest_le (i : Icon) : 0 ≤ greatest i ∧ greatest i ≤ 1048576 := by
  unfold greatest
  split
  · rename_i h
    unfold sized at h
    simp [within] at h
    have hs : (2 : Int) ^ i.s.toNat ≤ 64 ∧ (1 : Int) ≤ 2 ^ i.s.toNat := by
      have : i.s.toNat ≤ 6 := by omega
      have : i.s.toNat = 0 ∨ i.s.toNat = 1 ∨ i.s.toNat = 2 ∨ i.s.toNat = 3 ∨ i.s.toNat = 4 ∨ i.s.toNat = 5 ∨ i.s.toNat = 6 := by omega
      rcases this with h | h | h | h | h | h | h <;> rw [h] <;> decide
    obtain ⟨m, hm⟩ : ∃ m, max i.w i.h = m := ⟨_, rfl⟩
    have hm2 : 1 ≤ m ∧ m ≤ 4096 := by omega
    rw [hm]
    have a1 : 4 * m * 2 ^ i.s.toNat ≤ 16384 * 64 := Int.mul_le_mul (by omega) hs.1 (by omega) (by omega)
    have a2 : 0 ≤ 4 * m * 2 ^ i.s.toNat := Int.mul_nonneg (by omega) (by omega)
    omega
  · omega

/-- What is read behind the first four bytes. -/
def tail (b : List Nat) : P Icon := andThen (num b (between 1 4096)) fun wd => andThen (num b (between 1 4096)) fun ht => andThen (num b (between 0 6)) fun sc s =>
  andThen (num b (atMost 256)) (fun n => andThen (list (col b) n []) fun cs => andThen (num b (atMost 200)) fun m => andThen (list (cmd b) m []) fun ms => ret ⟨wd, ht, sc, nov, cs, nov, ms⟩) { s with far := greatest ⟨wd, ht, sc, nov, [], nov, []⟩ }

theorem most_is (b : List Nat) : most b = andThen (magic b) fun _ => tail b := rfl

def iconBytes (i : Icon) : List Nat := EP.num i.w ++ (EP.num i.h ++ (EP.num i.s ++ (EP.num i.cols.length ++ (i.cols.flatMap EP.col ++ (EP.num i.cmds.length ++ i.cmds.flatMap EP.cmd)))))
theorem icon_is (i : Icon) : EP.icon i = [71, 76, 89, 49] ++ iconBytes i := by
  unfold EP.icon iconBytes
  simp only [List.append_assoc]

/-- What Check's answer says of the whole. -/
theorem chk_is {i : Icon} (h : chk i = 0) : sized i = true ∧ i.cols.length ≤ 256 ∧ i.cmds.length ≤ 200 ∧ (∀ c ∈ i.cmds, chkCmd (greatest i) i.cols.length c = 0) ∧ points i ≤ 4000 ∧ twinsFrom [] i.cols = false ∧ usedFrom 0 i.cmds = some (i.cols.length : Int) := by
  unfold chk at h
  split at h
  · cases h
  rename_i h1
  split at h
  · cases h
  rename_i h2
  split at h
  · exact absurd h (by assumption)
  rename_i h3
  split at h
  · cases h
  rename_i h4
  split at h
  · cases h
  rename_i h5
  simp at h1 h5
  exact ⟨h1, by omega, by omega, first_zero _ _ (by omega), by omega, h5.1, h5.2⟩

theorem reads_tail (i : Icon) (h : chk i = 0) (hb : ∀ c ∈ i.cols, (0 ≤ c.r ∧ c.r < 256) ∧ (0 ≤ c.g ∧ c.g < 256) ∧ (0 ≤ c.b ∧ c.b < 256) ∧ (0 ≤ c.a ∧ c.a < 256)) : ∃ s', Reads tail (iconBytes i) (bare i) st0 s' ∧ s'.used = i.cols.length ∧ s'.cols = i.cols := by
  obtain ⟨h1, h2, h3, h4, h5, h6, h7⟩ := chk_is h
  have hf := greatest_le i
  obtain ⟨far, hfar⟩ : ∃ far, greatest i = far := ⟨_, rfl⟩
  rw [hfar] at h4 hf
  unfold sized at h1
  simp [within] at h1
  have hg : greatest ⟨i.w.toNat, i.h.toNat, i.s.toNat, nov, [], nov, []⟩ = far := by
    rw [← hfar]
    unfold greatest sized
    simp only [toNat_eq (show 0 ≤ i.w by omega), toNat_eq (show 0 ≤ i.h by omega), toNat_eq (show 0 ≤ i.s by omega)]
  have e1 := reads_num (between 1 4096) i.w.toNat st0 (by unfold between; rw [if_neg (by omega)]) (by omega)
  have e2 := reads_num (between 1 4096) i.h.toNat st0 (by unfold between; rw [if_neg (by omega)]) (by omega)
  have e3 := reads_num (between 0 6) i.s.toNat st0 (by unfold between; rw [if_neg (by omega)]) (by omega)
  obtain ⟨s1, hs1⟩ : ∃ s1 : St, s1 = { st0 with far := far } := ⟨_, rfl⟩
  have e4 := reads_num (atMost 256) i.cols.length s1 (by unfold atMost; rw [if_neg (by omega)]) (by omega)
  have hC := cols_ok i.cols hb s1 (by rw [hs1]; exact h6)
  have e5 := reads_list (fun b => col b) EP.col id colOk colT (fun c s hk => reads_col c s hk) i.cols s1 [] hC.1
  rw [hC.2, List.map_id, List.nil_append] at e5
  obtain ⟨s2, hs2⟩ : ∃ s2 : St, s2 = { s1 with cols := s1.cols ++ i.cols } := ⟨_, rfl⟩
  rw [← hs2] at e5
  have c2 : s2.cols = i.cols := by rw [hs2, hs1]; rfl
  have e6 := reads_num (atMost 200) i.cmds.length s2 (by unfold atMost; rw [if_neg (by omega)]) (by omega)
  have hM := cmds_ok far i.cols.length i.cmds s2 i.cols.length (by rw [hs2, hs1]) (by rw [c2]) h4 (by rw [hs2, hs1]; exact h7) (by rw [hs2, hs1]; show (0 : Int) + points i ≤ 4000; omega)
  have e7 := reads_list (fun b => cmd b) EP.cmd bareCmd _ cmdT (fun c s hk => by
    obtain ⟨k1, k2, k3, ⟨u, k4⟩, k5⟩ := hk
    exact reads_cmd s (by rw [k1]; exact hf) (by omega) c (by rw [k1, k2]; exact k3) u k4 k5) i.cmds s2 [] hM.1
  rw [List.nil_append] at e7
  refine ⟨endOf cmdT i.cmds s2, ?_, by rw [hM.2.1]; omega, by rw [hM.2.2, c2]⟩
  have e8 := reads_bind (f := fun b n => andThen (list (col b) n []) fun cs => andThen (num b (atMost 200)) fun m => andThen (list (cmd b) m []) fun ms => ret (⟨i.w.toNat, i.h.toNat, i.s.toNat, nov, cs, nov, ms⟩ : Icon)) e4 (reads_bind (f := fun b cs => andThen (num b (atMost 200)) fun m => andThen (list (cmd b) m []) fun ms => ret (⟨i.w.toNat, i.h.toNat, i.s.toNat, nov, cs, nov, ms⟩ : Icon)) e5 (reads_bind (f := fun b m => andThen (list (cmd b) m []) fun ms => ret (⟨i.w.toNat, i.h.toNat, i.s.toNat, nov, i.cols, nov, ms⟩ : Icon)) e6 (reads_map (g := fun ms => (⟨i.w.toNat, i.h.toNat, i.s.toNat, nov, i.cols, nov, ms⟩ : Icon)) (u := bare i) e7 (by
    unfold bare
    simp only [toNat_eq (show 0 ≤ i.w by omega), toNat_eq (show 0 ≤ i.h by omega), toNat_eq (show 0 ≤ i.s by omega)]))))
  rw [hs1] at e8
  have e9 : Reads (fun b s => andThen (num b (atMost 256)) (fun n => andThen (list (col b) n []) fun cs => andThen (num b (atMost 200)) fun m => andThen (list (cmd b) m []) fun ms => ret (⟨i.w.toNat, i.h.toNat, i.s.toNat, nov, cs, nov, ms⟩ : Icon)) { s with far := greatest ⟨i.w.toNat, i.h.toNat, i.s.toNat, nov, [], nov, []⟩ }) (WP.enc i.cols.length ++ (i.cols.flatMap EP.col ++ (WP.enc i.cmds.length ++ i.cmds.flatMap EP.cmd))) (bare i) st0 (endOf cmdT i.cmds s2) := by
    rw [hg]
    intro pre rest
    exact e8 pre rest
  exact reads_bind (f := fun b (wd : Nat) => andThen (num b (between 1 4096)) fun ht => andThen (num b (between 0 6)) fun sc s =>
    andThen (num b (atMost 256)) (fun n => andThen (list (col b) n []) fun cs => andThen (num b (atMost 200)) fun m => andThen (list (cmd b) m []) fun ms => ret (⟨wd, ht, sc, nov, cs, nov, ms⟩ : Icon)) { s with far := greatest ⟨wd, ht, sc, nov, [], nov, []⟩ }) e1
    (reads_bind (f := fun b (ht : Nat) => andThen (num b (between 0 6)) fun sc s =>
      andThen (num b (atMost 256)) (fun n => andThen (list (col b) n []) fun cs => andThen (num b (atMost 200)) fun m => andThen (list (cmd b) m []) fun ms => ret (⟨i.w.toNat, ht, sc, nov, cs, nov, ms⟩ : Icon)) { s with far := greatest ⟨i.w.toNat, ht, sc, nov, [], nov, []⟩ }) e2
      (reads_bind (f := fun b (sc : Nat) s =>
        andThen (num b (atMost 256)) (fun n => andThen (list (col b) n []) fun cs => andThen (num b (atMost 200)) fun m => andThen (list (cmd b) m []) fun ms => ret (⟨i.w.toNat, i.h.toNat, sc, nov, cs, nov, ms⟩ : Icon)) { s with far := greatest ⟨i.w.toNat, i.h.toNat, sc, nov, [], nov, []⟩ }) e3 e9))

/-- Bytes of a right icon, with something behind them or nothing: all but the end. -/
theorem most_right (i : Icon) (h : chk i = 0) (hb : ∀ c ∈ i.cols, (0 ≤ c.r ∧ c.r < 256) ∧ (0 ≤ c.g ∧ c.g < 256) ∧ (0 ≤ c.b ∧ c.b < 256) ∧ (0 ≤ c.a ∧ c.a < 256)) (rest : List Nat) : ∃ s', most (EP.icon i ++ rest) st0 = .ok (bare i, s') ∧ s'.at' = (EP.icon i).length ∧ s'.used = i.cols.length ∧ s'.cols = i.cols := by
  obtain ⟨s', h1, h2, h3⟩ := reads_tail i h hb
  refine ⟨s'.on (4 + (iconBytes i).length), ?_, by rw [icon_is]; simp [St.on]; omega, h2, h3⟩
  have e := h1 [71, 76, 89, 49] rest
  rw [most_is, icon_is, List.append_assoc]
  have hm : magic ([71, 76, 89, 49] ++ (iconBytes i ++ rest)) st0 = .ok ((), st0.on 4) := by
    unfold magic
    rw [if_neg (by simp), if_pos (by simp)]
    rfl
  rw [andThen_ok hm]
  exact e

theorem icon_right (i : Icon) (h : chk i = 0) (hb : ∀ c ∈ i.cols, (0 ≤ c.r ∧ c.r < 256) ∧ (0 ≤ c.g ∧ c.g < 256) ∧ (0 ≤ c.b ∧ c.b < 256) ∧ (0 ≤ c.a ∧ c.a < 256)) (hl : (EP.icon i).length ≤ 60000) : DP.icon (EP.icon i) = .ok (bare i) := by
  obtain ⟨s', h1, h2, h3, h4⟩ := most_right i h hb []
  rw [List.append_nil] at h1
  unfold DP.icon body
  rw [if_neg (by omega), andThen_ok h1]
  have : fin (EP.icon i) s' = .ok ((), s') := by
    unfold fin
    rw [if_neg (by rw [h3, h4]; omega), if_neg (by omega)]
  rw [andThen_ok this]
  rfl

theorem icon_trail (i : Icon) (h : chk i = 0) (hb : ∀ c ∈ i.cols, (0 ≤ c.r ∧ c.r < 256) ∧ (0 ≤ c.g ∧ c.g < 256) ∧ (0 ≤ c.b ∧ c.b < 256) ∧ (0 ≤ c.a ∧ c.a < 256)) (x : Nat) (hl : (EP.icon i).length < 60000) : DP.icon (EP.icon i ++ [x]) = .error (eTrail, (EP.icon i).length) := by
  obtain ⟨s', h1, h2, h3, h4⟩ := most_right i h hb [x]
  unfold DP.icon body
  rw [if_neg (by simp; omega), andThen_ok h1]
  have : fin (EP.icon i ++ [x]) s' = .error (eTrail, (EP.icon i).length) := by
    unfold fin
    rw [if_neg (by rw [h3, h4]; omega), if_pos (by simp; omega), h2]
  rw [andThen_err this]

end DP
end Go.Proofs.YtbfhehdinkbioaaDoor

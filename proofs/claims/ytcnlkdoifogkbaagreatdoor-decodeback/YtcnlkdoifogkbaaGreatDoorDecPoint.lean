/-
  A reader reads a point, written as its way from the one ahead: walked over the program.
-/
import Derived.Test.YtcnlkdoifogkbaaGreatDoorDecPart
import Derived.Test.YtcnlkdoifogkbaaGreatDoorMake3
import Derived.Deep.RegionHeld3
namespace Go.Proofs.YtcnlkdoifogkbaaGreatDoor
open Go.RowKit

def In64 (z : Int) : Prop := -9223372036854775808 ≤ z ∧ z ≤ 9223372036854775807
def PtIn64 (p : IC.Pt) : Prop := In64 p.x ∧ In64 p.y

/-- A store elsewhere. -/
theorem Rs.far {x : Src} {q : Nat} {w : World} {R : Except DP.Bad DP.St} (h : Rs x q w R) {p : Addr} {t : TypeId} {a : Array Value} (hp : q < p.block) (hb : Blk w p.block t a) (ht : t ≠ 66) (ht2 : t ≠ 81) (v : Value) : Rs x q (w.setCell p v) R := by
  have hlow : Below q w (w.setCell p v) := (Below.refl q w).setCell (by omega) v
  cases R with
  | ok s =>
    have h : Rd x q w s := h
    refine ⟨h.base.low hlow, h.fit, h.blk.far (by omega) v, h.own.kept fun ad e => Below.heap_setCell _ _ _ _ fun e2 => ?_⟩
    rcases h.own.2 with ⟨h1, _⟩ | ⟨g, c, cur, h1, _, h3, _⟩
    · rw [e] at h1; cases h1
    · rw [e] at h1
      cases h1
      unfold Blk at hb
      rw [← e2, h3] at hb
      simp at hb
      exact ht hb.2.symm
  | error e =>
    obtain ⟨h1, ⟨ao, n, cap, at', far, adc, nc, capc, used, pts, cl, g, h2, h3, h4⟩, h5⟩ := h
    refine ⟨h1.low hlow, ⟨ao, n, cap, at', far, adc, nc, capc, used, pts, cl, g, h2.far (by omega) v, h3.far (fun e2 => ?_) v, h4⟩, h5⟩
    unfold Blk at hb h3
    rw [← e2, h3] at hb
    simp at hb
    exact ht2 hb.2.symm

theorem part_keep {bs : List Nat} {a : Int} {R : Except DP.Bad DP.St} {s' : DP.St} (hb : ∀ c ∈ bs, c < 256) (h : rest (run (DP.part bs a) R) = .ok s') : ∃ s k, R = .ok s ∧ s' = { s with at' := s.at' + k } := by
  cases R with
  | error e => cases h
  | ok s =>
    change rest (DP.part bs a s) = _ at h
    cases hp : DP.part bs a s with
    | error e => rw [hp] at h; cases h
    | ok v =>
      rw [hp] at h
      obtain ⟨z, s1⟩ := v
      cases h
      obtain ⟨-, k, h2, -⟩ := part_facts hp hb
      exact ⟨s, k, rfl, h2⟩

theorem part_in {bs : List Nat} {a : Int} {R : Except DP.Bad DP.St} (hb : ∀ c ∈ bs, c < 256) (ha : In64 a) (hf : ∀ s, R = .ok s → 0 ≤ s.far ∧ s.far ≤ 1048576) : In64 (intOr a (run (DP.part bs a) R)) := by
  cases R with
  | error e => exact ha
  | ok s =>
    show In64 (intOr a (DP.part bs a s))
    cases hp : DP.part bs a s with
    | error e => exact ha
    | ok v =>
      obtain ⟨z, s1⟩ := v
      obtain ⟨h1, -⟩ := part_facts hp hb
      have := hf s rfl
      show In64 z
      unfold In64; omega

theorem Rs.farIn {x : Src} {q : Nat} {w : World} {R : Except DP.Bad DP.St} (h : Rs x q w R) : ∀ s, R = .ok s → 0 ≤ s.far ∧ s.far ≤ 1048576 := fun s e => by subst e; exact ⟨(show Rd x q w s from h).fit.far0, (show Rd x q w s from h).fit.far1⟩

theorem Blk.got {w : World} {b : Nat} {t : TypeId} {a : Array Value} (h : Blk w b t a) (j : Nat) (hj : j < a.size) (v : Value) : (w.setCell ⟨b, j, none⟩ v).cell? ⟨b, j, none⟩ = some v := by
  rw [(h.set (j := j) v).cell j]
  simp [hj]
theorem two_boxes (w : World) (A B : Array Value) (ta tb : TypeId) : Blk ((w.alloc (.cells A ta)).alloc (.cells B tb)) w.heap.size ta A ∧ Blk ((w.alloc (.cells A ta)).alloc (.cells B tb)) (w.heap.size + 1) tb B :=
  ⟨(blk_new w ta A).alloc _, by have := blk_new (w.alloc (.cells A ta)) tb B; simpa using this⟩

/-- A point, and its two parts. -/
theorem point_sum (bs : List Nat) (a : IC.Pt) (R : Except DP.Bad DP.St) : rest (run (DP.point bs a) R) = rest (run (DP.part bs a.y) (rest (run (DP.part bs a.x) R))) ∧
    ∀ v, run (DP.point bs a) R = .ok v → v.1 = ⟨intOr a.x (run (DP.part bs a.x) R), intOr a.y (run (DP.part bs a.y) (rest (run (DP.part bs a.x) R)))⟩ := by
  cases R with
  | error e => exact ⟨rfl, fun v h => by cases h⟩
  | ok s =>
    show rest (DP.point bs a s) = rest (run (DP.part bs a.y) (rest (DP.part bs a.x s))) ∧ ∀ v, DP.point bs a s = .ok v → v.1 = ⟨intOr a.x (DP.part bs a.x s), intOr a.y (run (DP.part bs a.y) (rest (DP.part bs a.x s)))⟩
    cases h1 : DP.part bs a.x s with
    | error e =>
      have : DP.point bs a s = .error e := DP.andThen_err h1
      rw [this]
      exact ⟨rfl, fun v h => by cases h⟩
    | ok v1 =>
      have e1 : DP.point bs a s = DP.andThen (DP.part bs a.y) (fun y => DP.ret (⟨v1.1, y⟩ : IC.Pt)) v1.2 := DP.andThen_ok h1
      rw [e1]
      show rest (DP.andThen (DP.part bs a.y) (fun y => DP.ret (⟨v1.1, y⟩ : IC.Pt)) v1.2) = rest (DP.part bs a.y v1.2) ∧ ∀ v, DP.andThen (DP.part bs a.y) (fun y => DP.ret (⟨v1.1, y⟩ : IC.Pt)) v1.2 = .ok v → v.1 = ⟨v1.1, intOr a.y (DP.part bs a.y v1.2)⟩
      cases h2 : DP.part bs a.y v1.2 with
      | error e => rw [DP.andThen_err h2]; exact ⟨rfl, fun v h => by cases h⟩
      | ok v2 => rw [DP.andThen_ok h2]; exact ⟨rfl, fun v h => by cases h; rfl⟩

set_option maxRecDepth 20000 in
set_option maxHeartbeats 1000000 in
theorem dpoint_any (x : Src) (q : Nat) (R : Except DP.Bad DP.St) (a : IC.Pt) (w : World) (h : Rs x q w R) (hi : PtIn64 a) (ha : ∀ s, R = .ok s → IC.reach s.far a = true) :
    Calls Tryz.prog 109 #[.pointer (some ⟨q, 0, none⟩), .agg #[.int .i64 a.x, .int .i64 a.y]] w fun e w' => ∃ p : IC.Pt, e = .returned (.agg #[.int .i64 p.x, .int .i64 p.y]) ∧ PtIn64 p ∧ (∀ v, run (DP.point x.bs a) R = .ok v → v.1 = p) ∧ Rs x q w' (rest (run (DP.point x.bs a) R)) ∧ Mk q w w' := by
  have hb := h.base.lt256
  obtain ⟨ps1, ps2⟩ := point_sum x.bs a R
  obtain ⟨ax, ay⟩ := a
  have hr : ∀ s, R = .ok s → (-s.far ≤ ax ∧ ax ≤ s.far) ∧ (-s.far ≤ ay ∧ ay ≤ s.far) := fun s e => by have := ha s e; simp [IC.reach, IC.within] at this; exact this
  obtain ⟨R1, hR1⟩ : ∃ R1, rest (run (DP.part x.bs ax) R) = R1 := ⟨_, rfl⟩
  obtain ⟨zx, hzx⟩ : ∃ z, intOr ax (run (DP.part x.bs ax) R) = z := ⟨_, rfl⟩
  obtain ⟨R2, hR2⟩ : ∃ R2, rest (run (DP.part x.bs ay) R1) = R2 := ⟨_, rfl⟩
  obtain ⟨zy, hzy⟩ : ∃ z, intOr ay (run (DP.part x.bs ay) R1) = z := ⟨_, rfl⟩
  simp only [hR1, hR2, hzx, hzy] at ps1 ps2
  have iz : In64 zx := by rw [← hzx]; exact part_in hb hi.1 h.farIn
  have k1 : Hid (∀ W, Below w.heap.size w W → Calls Tryz.prog 118 #[.pointer (some ⟨q, 0, none⟩), .int .i64 ax] W fun e w' => e = .returned (.int .i64 zx) ∧ Rs x q w' R1 ∧ Mk q W w') := fun W hW => by
    have := part_any x q R ax W (h.below hW) hi.1 (fun s e => (hr s e).1)
    rw [hzx, hR1] at this
    exact this
  have hr1 : ∀ s, R1 = .ok s → (-s.far ≤ ay ∧ ay ≤ s.far) ∧ 0 ≤ s.far ∧ s.far ≤ 1048576 := fun s e => by
    obtain ⟨s0, k, e0, e1⟩ := part_keep hb (hR1.trans e)
    have := (hr s0 e0).2
    have := h.farIn s0 e0
    rw [e1]
    exact ⟨by assumption, by assumption⟩
  have iy : In64 zy := by rw [← hzy]; exact part_in hb hi.2 (fun s e => (hr1 s e).2)
  have k2 : Hid (∀ W, Rs x q W R1 → Calls Tryz.prog 118 #[.pointer (some ⟨q, 0, none⟩), .int .i64 ay] W fun e w' => e = .returned (.int .i64 zy) ∧ Rs x q w' R2 ∧ Mk q W w') := fun W hW => by
    have := part_any x q R1 ay W hW hi.2 (fun s e => (hr1 s e).1)
    rw [hzy, hR2] at this
    exact this
  have HP : Hid (rest (run (DP.point x.bs ⟨ax, ay⟩) R) = R2 ∧ (∀ v, run (DP.point x.bs ⟨ax, ay⟩) R = .ok v → v.1 = ⟨zx, zy⟩) ∧ PtIn64 ⟨zx, zy⟩) := ⟨ps1, ps2, iz, iy⟩
  have hq := h.lt
  generalize run (DP.point x.bs ⟨ax, ay⟩) R = RP at HP ⊢
  clear ps1 ps2 hr1 hr ha hi hb hR1 hR2 hzx hzy iz iy h
  go_enter Tryz.func109, Tryz.ntmps109
  go_wp2
  go_region_with (first
    | (go_at_call 118; refine (k2.out _ H1.out.1).mono ?_; rintro e w2 ⟨rfl, h2⟩
       have H2 := hid'' h2
       clear h2
       have B2 : Blk w2 (w.heap.size + 1) 57 #[.int .i64 0, .int .i64 0] := B1.mk H2.out.2 (by omega)
       have d0 := B2.cell 0
       have d1 := B2.cell 1
       have g0 := B2.frozen 0
       have g1 := B2.frozen 1)
    | (go_at_call 118; refine (k1.out _ (by first | exact (((Below.refl _ _).alloc (Nat.le_refl _) _).alloc (by simp) _).drew | exact (((Below.refl _ _).alloc (Nat.le_refl _) _).alloc (by simp) _))).mono ?_; rintro e w1 ⟨rfl, h1⟩
       have H1 := hid'' h1
       clear h1
       have c1 : w1.cell? ⟨w.heap.size, 1, none⟩ = some (.int .i64 ay) := (H1.out.2.cell (by simp; omega) (by omega)).trans (by simp)
       have B1 : Blk w1 (w.heap.size + 1) 57 #[.int .i64 0, .int .i64 0] := by first | exact Blk.mk (two_boxes w _ _ _ _).2.drew H1.out.2 (by omega) | exact Blk.mk (two_boxes w _ _ _ _).2 H1.out.2 (by omega)))
  all_goals go_wp2
  all_goals
    refine bodyPost_ret (v := .agg #[.int .i64 zx, .int .i64 zy]) (by simp [results, Tryz.results109, go_sem, B2.got 0 (by simp) (.int .i64 zx), (B2.set (j := 0) (.int .i64 zx)).got 1 (by simp) (.int .i64 zy)]) rfl ⟨⟨zx, zy⟩, rfl, HP.out.2.2, HP.out.2.1, ?_, ?_⟩
    · rw [HP.out.1]
      have r1 := H2.out.1.far (p := ⟨w.heap.size + 1, 0, none⟩) (by show q < w.heap.size + 1; omega) B2 (by decide) (by decide) (.int .i64 zx)
      exact r1.far (p := ⟨w.heap.size + 1, 1, none⟩) (by show q < w.heap.size + 1; omega) (B2.set (j := 0) _) (by decide) (by decide) (.int .i64 zy)
    · have m1 : Mk q w w1 := (Mk.below (((Below.refl w.heap.size w).alloc (Nat.le_refl _) (Obj.cells #[.int .i64 ax, .int .i64 ay] 57)).alloc (by simp) (Obj.cells #[.int .i64 0, .int .i64 0] 57)).drew).trans H1.out.2
      exact ((m1.trans H2.out.2).set (p := ⟨w.heap.size + 1, 0, none⟩) (by show w.heap.size ≤ w.heap.size + 1; omega) _).set (p := ⟨w.heap.size + 1, 1, none⟩) (by show w.heap.size ≤ w.heap.size + 1; omega) _

end Go.Proofs.YtcnlkdoifogkbaaGreatDoor

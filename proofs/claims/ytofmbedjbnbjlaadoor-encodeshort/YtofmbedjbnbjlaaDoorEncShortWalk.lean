/-
  A path of many like segments: how long its bytes are; walked over the program.
-/
import Derived.Test.YtofmbedjbnbjlaaDoorEncFirst
import Derived.Test.YtofmbedjbnbjlaaDoorMake4
import Derived.Test.YtofmbedjbnbjlaaDoorEncRuns
namespace Go.Proofs.YtofmbedjbnbjlaaDoor
open Go.RowKit

def spt (x y : Int) (j : Nat) : IC.Pt := ⟨(j + 1) * x, (j + 1) * y⟩
def sseg (x y : Int) (j : Nat) : IC.Seg := ⟨1, spt x y j, ⟨0, 0⟩, ⟨0, 0⟩⟩
def ssegs (x y : Int) (n : Nat) : List IC.Seg := (List.range n).map (sseg x y)

theorem ssegs_len (x y : Int) (n : Nat) : (ssegs x y n).length = n := by simp [ssegs]
theorem ssegs_succ (x y : Int) (n : Nat) : ssegs x y (n + 1) = ssegs x y n ++ [sseg x y n] := by simp [ssegs, List.range_succ]

theorem zg_small {z : Int} (h : z = -1 ∨ z = 0 ∨ z = 1) : (EP.zg z).length = 1 := by
  unfold EP.zg
  have : EP.zig z < 128 := by unfold EP.zig; split <;> omega
  rw [WP.enc_lt this]
  rfl

theorem step_diff (x : Int) (n : Nat) : ((n : Int) + 1) * x - n * x = x := by
  rw [Int.add_mul, Int.one_mul]
  omega

theorem sway {x y : Int} (hx : x = -1 ∨ x = 0 ∨ x = 1) (hy : y = -1 ∨ y = 0 ∨ y = 1) (n : Nat) :
    (EP.way ⟨0, 0⟩ ((ssegs x y n).flatMap EP.ptsOf)).length = 2 * n ∧ EP.lastOf ⟨0, 0⟩ ((ssegs x y n).flatMap EP.ptsOf) = ⟨n * x, n * y⟩ := by
  induction n with
  | zero => refine ⟨rfl, ?_⟩; simp [ssegs, EP.lastOf]
  | succ n ih =>
    have hf : (ssegs x y (n + 1)).flatMap EP.ptsOf = (ssegs x y n).flatMap EP.ptsOf ++ [spt x y n] := by
      rw [ssegs_succ, List.flatMap_append]
      rfl
    have hw := way_append ((ssegs x y n).flatMap EP.ptsOf) [spt x y n] ⟨0, 0⟩
    rw [← hf, ih.2] at hw
    rw [hw.1, hw.2, List.length_append, ih.1]
    have e : EP.way ⟨(n : Int) * x, (n : Int) * y⟩ [spt x y n] = EP.zg x ++ EP.zg y := by
      show EP.zg (((n : Int) + 1) * x - n * x) ++ EP.zg (((n : Int) + 1) * y - n * y) ++ [] = _
      rw [step_diff, step_diff, List.append_nil]
    rw [e, List.length_append, zg_small hx, zg_small hy]
    refine ⟨by omega, ?_⟩
    show spt x y n = _
    unfold spt
    simp

theorem runs_ones : ∀ n : Nat, EP.runsOf (List.replicate (n + 1) 1) = [(1, n + 1)] := by
  intro n
  induction n with
  | zero => rfl
  | succ n ih =>
    rw [List.replicate_succ', EP.runsOf_snoc, ih]
    exact EP.add_same [] 1 (n + 1)

theorem sruns (x y : Int) (n : Nat) (hn : 1 ≤ n) : EP.runs (ssegs x y n) = [(1, n)] := by
  obtain ⟨m, rfl⟩ : ∃ m, n = m + 1 := ⟨n - 1, by omega⟩
  unfold EP.runs
  have : (ssegs x y (m + 1)).map IC.Seg.k = List.replicate (m + 1) 1 := by
    unfold ssegs
    rw [List.map_map]
    apply List.ext_getElem
    · simp
    · intro i h1 h2
      simp [sseg]
  rw [this, runs_ones]

def sicon (x y : Int) (n : Nat) (vc vm vp vs : Value) : IC.Icon := ⟨100, 100, 0, vc, [⟨1, 0, 0, 0⟩], vm, [⟨1, 0, 0, ⟨0, 0, 0, ⟨0, 0⟩, ⟨0, 0⟩⟩, vp, [⟨⟨0, 0⟩, vs, ssegs x y n, false⟩]⟩]⟩

theorem enc_size (n : Nat) (h : n < 16384) : (WP.enc n).length = if n < 128 then 1 else 2 := by
  split
  · rename_i h1; rw [WP.enc_lt h1]; rfl
  · rename_i h1; rw [WP.enc_ge h1, WP.enc_lt (by omega)]; rfl

theorem sicon_len {x y : Int} (hx : x = -1 ∨ x = 0 ∨ x = 1) (hy : y = -1 ∨ y = 0 ∨ y = 1) {n : Nat} (hn : 1 ≤ n ∧ n ≤ 300) (vc vm vp vs : Value) : (EP.icon (sicon x y n vc vm vp vs)).length = 20 + 2 * n + (if 4 * n + 1 < 128 then 0 else 1) := by
  have hw := (sway hx hy n).1
  have hp : (EP.path ⟨⟨0, 0⟩, vs, ssegs x y n, false⟩).length = 3 + (if 4 * n + 1 < 128 then 1 else 2) + 2 * n := by
    unfold EP.path
    simp only [sruns x y n hn.1]
    have e : EP.runsB ⟨0, 0⟩ [(1, n)] (ssegs x y n) = EP.num ((n : Int) * 4 + 1) ++ EP.way ⟨0, 0⟩ (((ssegs x y n).take n).flatMap EP.ptsOf) ++ [] := rfl
    rw [e, List.take_of_length_le (by rw [ssegs_len]; omega), List.append_nil, List.length_append, List.length_append, List.length_append, hw]
    have e1 : (EP.num ((n : Int) * 4 + 1)).length = if 4 * n + 1 < 128 then 1 else 2 := by
      unfold EP.num
      rw [show ((n : Int) * 4 + 1).toNat = 4 * n + 1 by omega]
      exact enc_size _ (by omega)
    rw [e1]
    have e2 : (EP.num ((([(1, n)] : List (Int × Nat)).length : Int) * 2 + if false = true then 1 else 0)).length = 1 := rfl
    have e3 : (EP.pt ⟨0, 0⟩).length = 2 := rfl
    rw [e2, e3]
    omega
  have e : EP.icon (sicon x y n vc vm vp vs) = [71, 76, 89, 49, 100, 100, 0, 1, 1, 0, 0, 0, 1, 0, 0, 1] ++ EP.path ⟨⟨0, 0⟩, vs, ssegs x y n, false⟩ := by
    show [71, 76, 89, 49, 100, 100, 0, 1, 1, 0, 0, 0, 1, 0, 0, 1] ++ (EP.path ⟨⟨0, 0⟩, vs, ssegs x y n, false⟩ ++ []) ++ [] = _
    simp
  rw [e, List.length_append, hp]
  simp only [List.length_cons, List.length_nil]
  split <;> omega

theorem mul_small1 {x : Int} (hx : x = -1 ∨ x = 0 ∨ x = 1) (j : Nat) (hj : j + 1 ≤ 300) : -400 ≤ ((j : Int) + 1) * x ∧ ((j : Int) + 1) * x ≤ 400 := by
  rcases hx with rfl | rfl | rfl <;> omega
theorem mul_small {x : Int} (hx : x = -1 ∨ x = 0 ∨ x = 1) (j n : Nat) (hj : j ≤ n) : -(n : Int) ≤ j * x ∧ (j : Int) * x ≤ n := by
  rcases hx with rfl | rfl | rfl <;> omega

theorem sicon_chk {x y : Int} (hx : x = -1 ∨ x = 0 ∨ x = 1) (hy : y = -1 ∨ y = 0 ∨ y = 1) {n : Nat} (hn : 1 ≤ n ∧ n ≤ 300) (vc vm vp vs : Value) : IC.chk (sicon x y n vc vm vp vs) = 0 := by
  have hseg : ∀ s ∈ ssegs x y n, IC.chkSeg 400 s = 0 := fun s hs => by
    obtain ⟨j, hj, rfl⟩ := List.mem_map.1 hs
    have hj : j < n := by simpa using hj
    have b1 := mul_small1 hx j (by omega)
    have b2 := mul_small1 hy j (by omega)
    have hr : IC.reach 400 (spt x y j) = true := by
      unfold IC.reach spt
      rw [within_of b1.1 b1.2, within_of b2.1 b2.2]
      rfl
    show (if (!IC.within 1 1 3) = true then 1 else if (!([spt x y j].all (IC.reach 400))) = true then 1 else if (!([⟨0, 0⟩, ⟨0, 0⟩].all IC.zero)) = true then 3 else 0) = 0
    simp [hr, IC.within, IC.zero]
  have hpath : IC.chkPath 400 ⟨⟨0, 0⟩, vs, ssegs x y n, false⟩ = 0 := by
    unfold IC.chkPath
    simp only [ssegs_len]
    rw [if_neg (by omega), if_neg (by omega), if_neg (by decide)]
    exact firstOf_all _ _ hseg
  have hpts : IC.sumOf IC.segPts (ssegs x y n) = n := by
    clear hseg hpath hn
    induction n with
    | zero => rfl
    | succ n ih =>
      rw [ssegs_succ]
      have ha : ∀ (l : List IC.Seg) (s : IC.Seg), IC.sumOf IC.segPts (l ++ [s]) = IC.sumOf IC.segPts l + IC.segPts s := by
        intro l s
        induction l with
        | nil => show IC.segPts s + 0 = 0 + IC.segPts s; omega
        | cons a r ih => show IC.segPts a + IC.sumOf IC.segPts (r ++ [s]) = IC.segPts a + IC.sumOf IC.segPts r + IC.segPts s; rw [ih]; omega
      rw [ha, ih]
      show (n : Int) + 1 = _
      omega
  have hcmd : IC.chkCmd 400 1 ⟨1, 0, 0, ⟨0, 0, 0, ⟨0, 0⟩, ⟨0, 0⟩⟩, vp, [⟨⟨0, 0⟩, vs, ssegs x y n, false⟩]⟩ = 0 := by
    show (if (IC.chkPath 400 ⟨⟨0, 0⟩, vs, ssegs x y n, false⟩) = 0 then 0 else _) = 0
    rw [if_pos hpath]
  have hg : IC.greatest (sicon x y n vc vm vp vs) = 400 := rfl
  unfold IC.chk
  rw [hg]
  show (if IC.firstOf (IC.chkCmd 400 1) [⟨1, 0, 0, ⟨0, 0, 0, ⟨0, 0⟩, ⟨0, 0⟩⟩, vp, [⟨⟨0, 0⟩, vs, ssegs x y n, false⟩]⟩] ≠ 0 then _ else if 4000 < IC.points (sicon x y n vc vm vp vs) then 2 else 0) = 0
  have hf : IC.firstOf (IC.chkCmd 400 1) [⟨1, 0, 0, ⟨0, 0, 0, ⟨0, 0⟩, ⟨0, 0⟩⟩, vp, [⟨⟨0, 0⟩, vs, ssegs x y n, false⟩]⟩] = 0 := firstOf_all _ _ fun c hc => by obtain rfl := List.mem_singleton.1 hc; exact hcmd
  have hp : IC.points (sicon x y n vc vm vp vs) = 1 + n := by
    show 1 + IC.sumOf IC.segPts (ssegs x y n) + 0 + 0 = _
    rw [hpts]; omega
  rw [hf, hp, if_neg (by simp), if_neg (by omega)]

theorem tmod_two (x : Int) : x.tmod 2 = -1 ∨ x.tmod 2 = 0 ∨ x.tmod 2 = 1 := by
  rcases Int.le_total 0 x with h | h
  · rw [Int.tmod_eq_emod_of_nonneg h]; omega
  · have e : x.tmod 2 = -((-x).tmod 2) := by rw [Int.neg_tmod]; omega
    rw [e, Int.tmod_eq_emod_of_nonneg (by omega)]; omega

theorem tmod_300 (x : Int) : (-300 < x.tmod 300 ∧ x.tmod 300 < 300) ∧ (0 ≤ (x.tmod 300 + 300).tmod 300 ∧ (x.tmod 300 + 300).tmod 300 < 300) := by
  have h : -300 < x.tmod 300 ∧ x.tmod 300 < 300 := by
    rcases Int.le_total 0 x with h | h
    · rw [Int.tmod_eq_emod_of_nonneg h]; omega
    · have e : x.tmod 300 = -((-x).tmod 300) := by rw [Int.neg_tmod]; omega
      rw [e, Int.tmod_eq_emod_of_nonneg (by omega)]; omega
  refine ⟨h, ?_⟩
  rw [Int.tmod_eq_emod_of_nonneg (by omega)]
  omega

/-- What stands while the path grows. -/
structure ShSt (w : World) (pb : Nat) (x y : Int) (k : Nat) (ad : Option Addr) (cap : Nat) (W : World) : Prop where
  path : Blk W pb 51 #[.int .i64 0, .int .i64 0, .slice ad k cap, .bool false]
  at' : Blk W (pb + 1) 40 #[.int .i64 (k * x), .int .i64 (k * y)]
  own : Own W (pb + 2) 60 7 IC.Seg.cells ad cap (ssegs x y k)
  low : Below w.heap.size w W

set_option maxRecDepth 100000 in
set_option maxHeartbeats 4000000 in
theorem eshort_any (A : Nat → Addr) (n x y : Int) (w : World) (hE : Errs3 w A) :
    Calls Tryd.prog 7 #[.int .i64 n, .int .i64 x, .int .i64 y] w fun e w' => e = .returned (.bool true) ∧ Below w.heap.size w w' := by
  have kf : Hid (∀ W, Below w.heap.size w W → Calls Tryd.prog 9 #[] W fun e w' => e = .returned (.bool true) ∧ Below W.heap.size W w') := fun W hb => efirst_any A W (hE.below hb)
  obtain ⟨⟨m1, m2⟩, m3, m4⟩ := tmod_300 n
  obtain ⟨T, hT⟩ : ∃ T, n.tmod 300 = T := ⟨_, rfl⟩
  rw [hT] at m1 m2 m3 m4
  obtain ⟨U, hU⟩ : ∃ U, (T + 300).tmod 300 = U := ⟨_, rfl⟩
  rw [hU] at m3 m4
  obtain ⟨N, hN⟩ : ∃ N : Nat, U + 1 = (N : Int) := ⟨(U + 1).toNat, by omega⟩
  have hN1 : 1 ≤ N ∧ N ≤ 300 := by omega
  have hx := tmod_two x
  have hy := tmod_two y
  obtain ⟨X, hX⟩ : ∃ X, x.tmod 2 = X := ⟨_, rfl⟩
  obtain ⟨Y, hY⟩ : ∃ Y, y.tmod 2 = Y := ⟨_, rfl⟩
  rw [hX] at hx
  rw [hY] at hy
  have HX : Hid (X = -1 ∨ X = 0 ∨ X = 1) := hx
  have HY : Hid (Y = -1 ∨ Y = 0 ∨ Y = 1) := hy
  have x1 : -1 ≤ X ∧ X ≤ 1 := by omega
  have y1 : -1 ≤ Y ∧ Y ≤ 1 := by omega
  have kb : Hid (∀ W vc vm vp vs, Below w.heap.size w W → IconOk W (sicon X Y N vc vm vp vs) → Calls Tryd.prog 12 #[.agg #[.int .i64 100, .int .i64 100, .int .i64 0, vc, vm]] W fun e w' => (∃ ad cap, e = .returned (.tuple #[.slice ad (20 + 2 * N + (if 4 * N + 1 < 128 then 0 else 1)) cap, .nilIface])) ∧ Below W.heap.size W w') := fun W vc vm vp vs hb hok => by
    have := bytes_ok A (sicon X Y N vc vm vp vs) W (hE.below hb) hok (fun c hc => by obtain rfl := List.mem_singleton.1 hc; unfold ColIn; decide) (sicon_chk hx hy hN1 _ _ _ _)
    rw [sicon_len hx hy hN1] at this
    refine this.mono ?_
    rintro e w' ⟨⟨ad, cap, rfl, -⟩, hb⟩
    exact ⟨⟨ad, cap, rfl⟩, hb⟩
  clear hE hx hy
  go_enter Tryd.func7, Tryd.ntmps7
  go_wp2_with (go_at_call 9; refine (kf.out _ (Below.refl _ _)).mono ?_; rintro e w1 ⟨rfl, hb1⟩)
  obtain ⟨pb, hpb⟩ : ∃ pb, w1.heap.size = pb := ⟨_, rfl⟩
  have H0 : Hid (ShSt w pb X Y 0 none 0 ((w1.alloc (.cells #[.int .i64 0, .int .i64 0, .slice none 0 0, .bool false] 51)).alloc (.cells #[.int .i64 0, .int .i64 0] 40))) := by
    refine ⟨?_, ?_, own_nil _ _ _ _ _, (hb1.alloc hb1.size _).alloc (by simp; have := hb1.size; omega) _⟩
    · rw [← hpb]; exact (blk_new w1 51 _).alloc _
    · have hb := blk_new (w1.alloc (.cells #[.int .i64 0, .int .i64 0, .slice none 0 0, .bool false] 51)) 40 #[.int .i64 0, .int .i64 0]
      rw [size_alloc, hpb] at hb
      simpa using hb
  have hwp : w.heap.size ≤ pb := by have := hb1.size; omega
  rw [hpb]
  clear hb1 hpb
  go_loopw [10] (fun i wr => ∃ (k : Nat) (ad : Option Addr) (cap : Nat), k ≤ N ∧ i = .int .i64 k ∧ Hid (ShSt w pb X Y k ad cap wr)) (fun i _ => N - (intOf i).toNat)
  case atStart => exact ⟨0, none, 0, by omega, rfl, H0⟩
  case round =>
    clear H0
    obtain ⟨k, ad, cap, hk, rfl, HS⟩ := hrel
    obtain ⟨⟨p0, p1, p2, p3⟩, q0, q1, q2, q3⟩ := cells_four HS.out.path
    obtain ⟨⟨a0, a1⟩, b0, b1⟩ := cells_two HS.out.at'
    have z1 := HS.out.at'.lt
    have z0 := HS.out.path.lt
    by_cases hkN : k < N
    · have hki : (k : Int) < (N : Int) := by omega
      have bx := mul_small HX.out k k (Nat.le_refl _)
      have by' := mul_small HY.out k k (Nat.le_refl _)
      have HSX : Hid (sseg X Y k = ⟨1, ⟨(k : Int) * X + X, (k : Int) * Y + Y⟩, ⟨0, 0⟩, ⟨0, 0⟩⟩) := by show _ = _; unfold sseg spt; rw [Int.add_mul, Int.add_mul, Int.one_mul, Int.one_mul]
      have HNX : Hid ((((k + 1 : Nat) : Int)) * X = (k : Int) * X + X ∧ (((k + 1 : Nat) : Int)) * Y = (k : Int) * Y + Y) := ⟨by rw [Int.natCast_add, Int.add_mul]; simp, by rw [Int.natCast_add, Int.add_mul]; simp⟩
      obtain ⟨ax, hax⟩ : ∃ ax, (k : Int) * X = ax := ⟨_, rfl⟩
      obtain ⟨ay, hay⟩ : ∃ ay, (k : Int) * Y = ay := ⟨_, rfl⟩
      rw [hax] at a0 bx HSX HNX
      rw [hay] at a1 by' HSX HNX
      have bx1 := bx.1
      have bx2 := bx.2
      have by1 := by'.1
      have by2 := by'.2
      clear bx by' hax hay
      go_wp2_with (at_builtin; refine wpList_push _ rfl (.tmp 44) (.tmp 48) 49 rfl (pb + 2) 60 _ 7 56 Tryd.underlying49 infoSeg rfl (by decide) IC.Seg.cells seg_len (ssegs X Y k) ⟨1, ⟨ax + X, ay + Y⟩, ⟨0, 0⟩, ⟨0, 0⟩⟩ k (ssegs_len X Y k) rfl (((HS.out.own.setLow (by show pb + 1 < pb + 2; omega) _).setLow (by show pb + 1 < pb + 2; omega) _).alloc _) _ rfl (new_cells' _ _ (by simp) _ _) (seg_one _) (by omega) (by omega) (by simp; omega) ?_
                   intro ad2 cap2 w2 hown2 hg2
                   have e0 : ∀ a, ad = some a → pb ≠ a.block ∧ pb + 1 ≠ a.block := fun a e => by have := (HS.out.own.lt a e).1; omega
                   have hP2 : Blk w2 pb 51 #[.int .i64 0, .int .i64 0, .slice ad k cap, .bool false] := Blk.grown (((HS.out.path.far (by show pb ≠ pb + 1; omega) _).far (by show pb ≠ pb + 1; omega) _).alloc _) hg2 (fun a e => (e0 a e).1)
                   have hA2 : Blk w2 (pb + 1) 40 #[.int .i64 (ax + X), .int .i64 (ay + Y)] := Blk.grown (((HS.out.at'.set (j := 0) _).set (j := 1) _).alloc _) hg2 (fun a e => (e0 a e).2)
                   have hL2 : Below w.heap.size w w2 := below_grown (((HS.out.low.setCell (by show _ ≤ pb + 1; omega) _).setCell (by show _ ≤ pb + 1; omega) _).alloc (by simp; omega) _) hg2 (by simp; omega) (fun a e => by have := (HS.out.own.lt a e).1; omega)
                   have HS2 : Hid (ShSt w pb X Y (k + 1) ad2 cap2 (w2.setCell ⟨pb, 2, none⟩ (.slice ad2 (k + 1) cap2))) := ⟨hP2.set (j := 2) _, by rw [HNX.out.1, HNX.out.2]; exact hA2.far (by show pb + 1 ≠ pb; omega) _, by rw [ssegs_succ, HSX.out]; exact hown2.setLow (by show pb < pb + 2; omega) _, hL2.setCell (by show _ ≤ pb; omega) _⟩
                   obtain ⟨⟨r0, r1, r2, r3⟩, s0, s1, s2, s3⟩ := cells_four hP2
                   have z2 := hP2.lt
                   clear hown2 hg2 hP2 hA2 hL2)
      go_roundw
      case rel => exact ⟨k + 1, ad2, cap2, by omega, by go_num, HS2⟩
      case measure => simp [intOf]; omega
    · obtain rfl : k = N := by omega
      have HN1 : Hid (1 ≤ k ∧ k ≤ 300) := hN1
      obtain ⟨sz, hsz⟩ : ∃ sz, wr.heap.size = sz := ⟨_, rfl⟩
      have hok : IconOk ((((wr.alloc (.cells #[.int .u8 1, .int .u8 0, .int .u8 0, .int .u8 0] 63)).alloc (.cells #[.int .i64 0, .int .i64 0, .slice ad k cap, .bool false] 51)).alloc (.cells #[.int .i64 1, .int .i64 0, .int .i64 0, .int .i64 0, .int .i64 0, .int .i64 0, .int .i64 0, .int .i64 0, .int .i64 0, .int .i64 0, .slice (some ⟨wr.heap.size + 1, 0, none⟩) 1 1] 45)).alloc (.cells #[.int .i64 100, .int .i64 100, .int .i64 0, .slice (some ⟨wr.heap.size, 0, none⟩) 1 1, .slice (some ⟨wr.heap.size + 1 + 1, 0, none⟩) 1 1] 30)) (sicon X Y k (.slice (some ⟨wr.heap.size, 0, none⟩) 1 1) (.slice (some ⟨wr.heap.size + 1 + 1, 0, none⟩) 1 1) (.slice (some ⟨wr.heap.size + 1, 0, none⟩) 1 1) (.slice ad k cap)) := by
        have b1 := (((blk_new wr 63 #[.int .u8 1, .int .u8 0, .int .u8 0, .int .u8 0]).alloc (.cells #[.int .i64 0, .int .i64 0, .slice ad k cap, .bool false] 51)).alloc (.cells #[.int .i64 1, .int .i64 0, .int .i64 0, .int .i64 0, .int .i64 0, .int .i64 0, .int .i64 0, .int .i64 0, .int .i64 0, .int .i64 0, .slice (some ⟨wr.heap.size + 1, 0, none⟩) 1 1] 45)).alloc (.cells #[.int .i64 100, .int .i64 100, .int .i64 0, .slice (some ⟨wr.heap.size, 0, none⟩) 1 1, .slice (some ⟨wr.heap.size + 1 + 1, 0, none⟩) 1 1] 30)
        have b2 := ((blk_new (wr.alloc (.cells #[.int .u8 1, .int .u8 0, .int .u8 0, .int .u8 0] 63)) 51 #[.int .i64 0, .int .i64 0, .slice ad k cap, .bool false]).alloc (.cells #[.int .i64 1, .int .i64 0, .int .i64 0, .int .i64 0, .int .i64 0, .int .i64 0, .int .i64 0, .int .i64 0, .int .i64 0, .int .i64 0, .slice (some ⟨wr.heap.size + 1, 0, none⟩) 1 1] 45)).alloc (.cells #[.int .i64 100, .int .i64 100, .int .i64 0, .slice (some ⟨wr.heap.size, 0, none⟩) 1 1, .slice (some ⟨wr.heap.size + 1 + 1, 0, none⟩) 1 1] 30)
        have b3 := (blk_new ((wr.alloc (.cells #[.int .u8 1, .int .u8 0, .int .u8 0, .int .u8 0] 63)).alloc (.cells #[.int .i64 0, .int .i64 0, .slice ad k cap, .bool false] 51)) 45 #[.int .i64 1, .int .i64 0, .int .i64 0, .int .i64 0, .int .i64 0, .int .i64 0, .int .i64 0, .int .i64 0, .int .i64 0, .int .i64 0, .slice (some ⟨wr.heap.size + 1, 0, none⟩) 1 1]).alloc (.cells #[.int .i64 100, .int .i64 100, .int .i64 0, .slice (some ⟨wr.heap.size, 0, none⟩) 1 1, .slice (some ⟨wr.heap.size + 1 + 1, 0, none⟩) 1 1] 30)
        rw [size_alloc] at b2
        rw [size_alloc, size_alloc] at b3
        have ho := ((((HS.out.own.alloc (.cells #[.int .u8 1, .int .u8 0, .int .u8 0, .int .u8 0] 63)).alloc (.cells #[.int .i64 0, .int .i64 0, .slice ad k cap, .bool false] 51)).alloc (.cells #[.int .i64 1, .int .i64 0, .int .i64 0, .int .i64 0, .int .i64 0, .int .i64 0, .int .i64 0, .int .i64 0, .int .i64 0, .int .i64 0, .slice (some ⟨wr.heap.size + 1, 0, none⟩) 1 1] 45)).alloc (.cells #[.int .i64 100, .int .i64 100, .int .i64 0, .slice (some ⟨wr.heap.size, 0, none⟩) 1 1, .slice (some ⟨wr.heap.size + 1 + 1, 0, none⟩) 1 1] 30)).many
        rw [ssegs_len] at ho
        refine ⟨many_one IC.Col.cells ⟨1, 0, 0, 0⟩ rfl b1, many_one IC.Cmd.cells ⟨1, 0, 0, ⟨0, 0, 0, ⟨0, 0⟩, ⟨0, 0⟩⟩, .slice (some ⟨wr.heap.size + 1, 0, none⟩) 1 1, [⟨⟨0, 0⟩, .slice ad k cap, ssegs X Y k, false⟩]⟩ rfl b3, fun c hc => ?_⟩
        obtain rfl := List.mem_singleton.1 hc
        refine ⟨many_one IC.Path.cells ⟨⟨0, 0⟩, .slice ad k cap, ssegs X Y k, false⟩ rfl b2, fun p hp => ?_⟩
        obtain rfl := List.mem_singleton.1 hp
        exact ho
      have hbel := (((HS.out.low.alloc HS.out.low.size (.cells #[.int .u8 1, .int .u8 0, .int .u8 0, .int .u8 0] 63)).alloc (by simp; have := HS.out.low.size; omega) (.cells #[.int .i64 0, .int .i64 0, .slice ad k cap, .bool false] 51)).alloc (by simp; have := HS.out.low.size; omega) (.cells #[.int .i64 1, .int .i64 0, .int .i64 0, .int .i64 0, .int .i64 0, .int .i64 0, .int .i64 0, .int .i64 0, .int .i64 0, .int .i64 0, .slice (some ⟨wr.heap.size + 1, 0, none⟩) 1 1] 45)).alloc (by simp; have := HS.out.low.size; omega) (.cells #[.int .i64 100, .int .i64 100, .int .i64 0, .slice (some ⟨wr.heap.size, 0, none⟩) 1 1, .slice (some ⟨wr.heap.size + 1 + 1, 0, none⟩) 1 1] 30)
      have KB := hid' (kb.out _ _ _ _ _ hbel hok)
      have HBE := hid' hbel
      have hk1 := hN1.1
      have hk2 := hN1.2
      clear hok hbel kb hsz
      by_cases h128 : 4 * k + 1 < 128
      · rw [if_pos h128] at KB
        have h128i : (4 : Int) * (k : Int) + 1 < 128 := by omega
        go_wp2_with (go_at_call 12; refine (KB.out).mono ?_; rintro e w3 ⟨⟨ad3, cap3, rfl⟩, hb3⟩
                     have B3 := hid' (HBE.out.trans (hb3.mono HBE.out.size))
                     clear hb3)
        all_goals
          go_ret
          exact ⟨ret_bool (by simp; omega), B3.out⟩
      · rw [if_neg h128] at KB
        have h128i : ¬ (4 : Int) * (k : Int) + 1 < 128 := by omega
        go_wp2_with (go_at_call 12; refine (KB.out).mono ?_; rintro e w3 ⟨⟨ad3, cap3, rfl⟩, hb3⟩
                     have B3 := hid' (HBE.out.trans (hb3.mono HBE.out.size))
                     clear hb3)
        all_goals
          go_ret
          exact ⟨ret_bool (by simp; omega), B3.out⟩

end Go.Proofs.YtofmbedjbnbjlaaDoor

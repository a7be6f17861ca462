import Derived.OpenShut
import Derived.Test.YtenmkopiddmieabGreatDoorJA
import Derived.Test.YtenmkopiddmieabGreatDoorTxB
import Derived.Test.YtenmkopiddmieabGreatDoorParseFirst
import Derived.Test.YtenmkopiddmieabGreatDoorPuG
import Derived.Test.YtenmkopiddmieabGreatDoorSaB
import Derived.Lib.Builder
import Derived.Lib.AppendStr
/-
  Numbers that came in as a slice.
-/
namespace Go.Proofs.YtenmkopiddmieabGreatDoor
open Go.RowKit

/-- Integers that came in as a slice: none, or cell by cell. -/
def IsRow (k : IntKind) (w : World) (a : Option Addr) (len cap : Nat) (zs : List Int) : Prop :=
  (a = none ∧ len = 0 ∧ cap = 0 ∧ zs = []) ∨
  ∃ x, a = some x ∧ len ≤ cap ∧ cap ≤ maxLen ∧ zs.length = cap ∧ (∀ i, i < zs.length → w.cell? (x.add i) = some (.int k (zs.getD i 0))) ∧ ∀ n ∈ zs, (Lit.int k n).wf = true

end Go.Proofs.YtenmkopiddmieabGreatDoor

/-
  A text whose blanks have been made other blanks, lines, remarks is read as it was, but for places: walked over the program. (Written by tools/mkspaces.py.)
-/
set_option linter.unusedVariables false
namespace Go.Proofs.YtenmkopiddmieabGreatDoor
open Go.RowKit

theorem seq_of_row {w w1 : World} {a : Option Addr} {len cap : Nat} {zs : List Int} (h : IsRow .i64 w a len cap zs) (hb : Below w.heap.size w w1) :
    TX.SeqOk (w1.alloc (.cells #[.slice a len cap, .int .i64 0] 27)) w1.heap.size 0 := by
  rcases h with ⟨rfl, rfl, rfl, -⟩ | ⟨x, rfl, hl, hm, hz, hc, hw⟩
  · exact ⟨none, 0, 0, 0, blk_new w1 27 _, by omega, by omega, by unfold maxLen; omega, fun j hj => absurd hj (by omega)⟩
  · refine ⟨some x, len, cap, 0, blk_new w1 27 _, by omega, hl, hm, fun j hj => ?_⟩
    have hj' : j < zs.length := by omega
    have h1 := hc j hj'
    have h2 := World.block_lt_of_cell? w _ h1
    have h3 := h2
    rw [TX.add_block] at h3
    have hlt : x.block < w1.heap.size := Nat.lt_of_lt_of_le h3 hb.size
    have hwf := hw (zs.getD j 0) (by simp [List.getD, hj'])
    refine ⟨x, zs.getD j 0, rfl, hlt, ?_, bounds_i64 hwf⟩
    have e : (w1.alloc (.cells #[.slice (some x) len cap, .int .i64 0] 27)).cell? (x.add j) = w1.cell? (x.add j) := World.cell?_of_block (Below.heap_alloc _ _ _ (by rw [TX.add_block]; exact hlt))
    rw [e, hb.cell (p := x.add j) h2]
    exact h1
theorem text_row {w w1 : World} {a : Option Addr} {len cap : Nat} {zs : List Int} (h : IsRow .i64 w a len cap zs) (hb : Below w.heap.size w w1) :
    Calls Tryz.prog 5 #[.pointer (some ⟨w1.heap.size, 0, none⟩)] (w1.alloc (.cells #[.slice a len cap, .int .i64 0] 27)) fun e w' => ∃ S : ByteArray, e = .returned (.string S) ∧ S.size ≤ 10000 ∧ Below w1.heap.size w1 w' := by
  refine (TX.text_st _ w1.heap.size 0 _ ⟨seq_of_row h hb, TX.Mk.refl _ _⟩ (by omega)).mono ?_
  rintro e w' ⟨S, rfl, hS, hst⟩
  exact ⟨S, rfl, hS, ((Below.refl _ _).alloc (Nat.le_refl _) _).trans (hst.out.2.low (Nat.le_refl _) (by simp))⟩

theorem rem_bound (a : Int) (m : Int) (hm : 0 < m) : -(m - 1) ≤ a.tmod m ∧ a.tmod m ≤ m - 1 := by
  rcases Int.le_total 0 a with h | h
  · rw [Int.tmod_eq_emod_of_nonneg h]
    have := Int.emod_nonneg a (Int.ne_of_gt hm)
    have := Int.emod_lt_of_pos a hm
    omega
  · have e : a.tmod m = -((-a).tmod m) := by rw [Int.neg_tmod]; omega
    rw [e, Int.tmod_eq_emod_of_nonneg (by omega)]
    have := Int.emod_nonneg (-a) (Int.ne_of_gt hm)
    have := Int.emod_lt_of_pos (-a) hm
    omega

theorem infoBy : (Tryz.prog.info? 5).map (fun i => (i.zero, i.size, i.bytes)) = some (some (.int .u8 0), 1, 1) := by kernel_rfl

/-- What a blank becomes. -/
def gapOf (zs : List Int) (len k : Nat) : List UInt8 := WP.ST.gtx.getD (((zs.getD (k % len) 0).tmod 4 + 4).tmod 4).toNat [32]
theorem gapOf_mem (zs : List Int) (len k : Nat) : gapOf zs len k ∈ WP.ST.gtx := by
  have h : ((((zs.getD (k % len) 0).tmod 4 + 4).tmod 4).toNat) < 4 := by
    have h1 := rem_bound (zs.getD (k % len) 0) 4 (by omega)
    generalize (zs.getD (k % len) 0).tmod 4 = t at h1
    have h2 := rem_bound (t + 4) 4 (by omega)
    omega
  unfold gapOf
  generalize (((zs.getD (k % len) 0).tmod 4 + 4).tmod 4).toNat = q at h
  have : q = 0 ∨ q = 1 ∨ q = 2 ∨ q = 3 := by omega
  rcases this with rfl | rfl | rfl | rfl <;> decide
theorem gapT_six (G : Nat → List UInt8) (hG : ∀ k, G k ∈ WP.ST.gtx) : ∀ (l : List UInt8) (r : Bool) (k : Nat), (WP.ST.gapT G r k l).length ≤ 6 * l.length
  | [], _, _ => Nat.le_refl _
  | c :: t, r, k => by
    rw [WP.ST.gapT_cons]
    have h6 : (G k).length ≤ 6 := by
      have := hG k
      simp only [WP.ST.gtx, List.mem_cons, List.not_mem_nil, or_false] at this
      rcases this with h | h | h | h <;> rw [h] <;> simp
    split
    · have := gapT_six G hG t (WP.ST.rem1 r c) (k + 1)
      simp only [List.length_append, List.length_cons]; omega
    · have := gapT_six G hG t (WP.ST.rem1 r c) k
      simp only [List.length_cons]; omega

theorem own_byte {w : World} {B g n cap : Nat} {l : List UInt8} (h : w.ownsRow B 5 1 (.slice (some ⟨g, 0, none⟩) n cap) n (Lib.byteCells l)) (j : Nat) (hj : j < l.length) : w.cell? ((⟨g, 0, none⟩ : Addr).add j) = some (.int .u8 (l[j].toNat : Int)) :=
  h.cells (g := g) rfl j _ (by simp [Lib.byteCells, hj])

/-- What Src answers: an icon, and what it is, or none, and that there is an error. -/
def SrcE2 (w : World) (R : Except (Nat × Nat) PP.Src) (e : Ending) (w' : World) : Prop :=
  Below w.heap.size w w' ∧ ∃ (Y : PP.Src) (a1 a2 a3 a4 : Option Addr) (c1 c2 c3 c4 : Nat) (ev : Value), e = .returned (.tuple #[.agg #[.int .i64 (Y.w : Nat), .int .i64 (Y.h : Nat), .int .i64 (Y.scale : Nat), .slice a1 Y.consts.length c1, .slice a2 Y.colors.length c2, .slice a3 Y.shapes.length c3, .slice a4 Y.cmds.length c4], ev]) ∧
    SrcAt w' Y (.slice a1 Y.consts.length c1) (.slice a2 Y.colors.length c2) (.slice a3 Y.shapes.length c3) (.slice a4 Y.cmds.length c4) ∧
    match R with
    | .ok X => ev = .nilIface ∧ Y = X
    | .error _ => (∃ g, ev = .iface 75 (.pointer (some ⟨g, 0, none⟩))) ∧ Y = ⟨0, 0, 0, [], [], [], []⟩
theorem many_none {α : Type} (w : World) (t : TypeId) (size : Nat) (f : α → List Value) : Many w t size f (.slice none 0 0) [] := ⟨by simp, .inl ⟨rfl, rfl⟩⟩
theorem src_e2 (s : ByteArray) (x : Cx) (w : World) (hs : s.size ≤ 60000) (hE : Hid (ErrP w x)) : Calls Tryz.prog 6 #[.string s] w (SrcE2 w (PP.src s.data.toList)) := by
  refine (src_any s x w hs hE).mono ?_
  rintro e w' ⟨hb, h⟩
  refine ⟨hb, ?_⟩
  cases hR : PP.src s.data.toList with
  | ok X =>
    rw [hR] at h
    obtain ⟨a1, a2, a3, a4, c1, c2, c3, c4, he, hat⟩ := h
    exact ⟨X, a1, a2, a3, a4, c1, c2, c3, c4, _, he, hat, rfl, rfl⟩
  | error c =>
    rw [hR] at h
    obtain ⟨g, he, hg⟩ := h
    exact ⟨⟨0, 0, 0, [], [], [], []⟩, none, none, none, none, 0, 0, 0, 0, _, he, ⟨many_none _ _ _ _, many_none _ _ _ _, ⟨[], rfl, many_none _ _ _ _, fun _ h => absurd h (by simp)⟩, ⟨[], rfl, many_none _ _ _ _, fun _ h => absurd h (by simp)⟩⟩, ⟨g, rfl⟩, rfl⟩

set_option maxRecDepth 20000 in
set_option maxHeartbeats 4000000 in
theorem pspaces_none (a0 a1 : Option Addr) (len0 cap0 len1 cap1 : Nat) (w : World) (x : Cx) (HP : Hid (ErrP w x)) (hlen0 : len0 ≤ maxLen) (hlen1 : len1 ≤ maxLen) (h : 250 < len0 ∨ len1 = 0 ∨ 40 < len1) :
    Calls Tryz.prog 3 #[.slice a0 len0 cap0, .slice a1 len1 cap1] w fun e w' => e = .returned (.bool true) ∧ Below w.heap.size w w' := by
  unfold maxLen at hlen0 hlen1
  have fin : ∀ (b0 b1 b2 : Bool), decide ((250 : Int) < (len0 : Int)) = b0 → ((len1 : Int) == 0) = b1 → decide ((40 : Int) < (len1 : Int)) = b2 → (b0 = true ∨ b1 = true ∨ b2 = true) →
    Calls Tryz.prog 3 #[.slice a0 len0 cap0, .slice a1 len1 cap1] w fun e w' => e = .returned (.bool true) ∧ Below w.heap.size w w' := by
    intro b0 b1 b2 h0 h1 h2 hh
    clear h
    cases b0 <;> cases b1 <;> cases b2 <;> first | (simp at hh; done) | skip
    all_goals
      clear hh
      go_enter Tryz.func3, Tryz.ntmps3
      go_wp2_with (go_at_call 4; refine (first10_any _ w HP).mono ?_; rintro e w1 ⟨rfl, hb1⟩
                   have B1 := hid'' hb1
                   clear hb1)
      all_goals first
        | (go_ret; exact ⟨rfl, B1.out⟩)
        | (exfalso; simp at h0 h1 h2; omega)
  exact fin _ _ _ rfl rfl rfl (by
    rcases h with h | h | h
    · exact .inl (by simp; omega)
    · exact .inr (.inl (by simp; omega))
    · exact .inr (.inr (by simp; omega)))

set_option maxRecDepth 20000 in
set_option maxHeartbeats 4000000 in
theorem pspaces_at (a0 a1 : Option Addr) (len0 cap0 len1 cap1 : Nat) (z0 z1 : List Int) (w : World) (x : Cx) (HP : Hid (ErrP w x)) (r0 : IsRow .i64 w a0 len0 cap0 z0) (r1 : IsRow .i64 w a1 len1 cap1 z1) (hlen0 : len0 ≤ 250) (hlen1 : 1 ≤ len1 ∧ len1 ≤ 40) :
    Calls Tryz.prog 3 #[.slice a0 len0 cap0, .slice a1 len1 cap1] w fun e w' => e = .returned (.bool true) ∧ Below w.heap.size w w' := by
  obtain ⟨i0, hi, hy0, hy1, hy2⟩ := info_parts infoBy
  have R0 := hid'' r0
  obtain ⟨y, rfl, hc1, hm1, hz1, hcell, hwf⟩ : ∃ y, a1 = some y ∧ len1 ≤ cap1 ∧ cap1 ≤ maxLen ∧ z1.length = cap1 ∧ (∀ i, i < z1.length → w.cell? (y.add i) = some (.int .i64 (z1.getD i 0))) ∧ ∀ n ∈ z1, (Lit.int .i64 n).wf = true := by
    rcases r1 with ⟨-, h, -⟩ | h
    · omega
    · exact h
  have HC : Hid (∀ i, i < z1.length → y.block < w.heap.size ∧ w.cell? (y.add i) = some (.int .i64 (z1.getD i 0)) ∧ -9223372036854775808 ≤ z1.getD i 0 ∧ z1.getD i 0 ≤ 9223372036854775807) := fun i hi => by
    have h2 := World.block_lt_of_cell? w _ (hcell i hi)
    rw [TX.add_block] at h2
    have h3 := bounds_i64 (hwf (z1.getD i 0) (by simp [List.getD, hi]))
    exact ⟨h2, hcell i hi, h3.1, h3.2⟩
  clear r0 r1 hcell hwf
  unfold maxLen at hm1
  have g1 : decide ((250 : Int) < (len0 : Int)) = false := by simp; omega
  have g2 : ((len1 : Int) == 0) = false := by simp; omega
  have g3 : decide ((40 : Int) < (len1 : Int)) = false := by simp; omega
  go_enter Tryz.func3, Tryz.ntmps3
  go_upto_region 11 with (first
    | (go_at_call 4; refine (first10_any _ w HP).mono ?_; rintro e w1 ⟨rfl, hb1⟩
       have B1 := hid'' hb1
       clear hb1)
    | (go_at_call 5; refine (text_row R0.out B1.out).mono ?_; rintro e w2 ⟨T, rfl, hT, hb2⟩
       have B2 : Hid (Below w.heap.size w w2) := B1.out.trans (hb2.mono B1.out.size)
       clear hb2))
  clear B1
  obtain ⟨n, hn⟩ : ∃ n, T.size = n := ⟨_, rfl⟩
  have HN := hid'' hn
  have hTn : (T.size : Int) = (n : Int) := by omega
  rw [hn] at hT
  clear hn
  obtain ⟨B, hB⟩ : ∃ B, w2.heap.size = B := ⟨_, rfl⟩
  rw [hB]
  obtain ⟨G, hG⟩ : ∃ G, gapOf z1 len1 = G := ⟨_, rfl⟩
  have HG := hid'' hG
  have HGm : Hid (∀ k, G k ∈ WP.ST.gtx) := fun k => by rw [← HG.out]; exact gapOf_mem _ _ _
  clear hG
  have own0 : (w2.alloc (.cells #[] 5)).ownsRow B 5 1 (.slice (some ⟨B, 0, none⟩) 0 0) 0 (Lib.byteCells []) :=
    ⟨rfl, .inr ⟨B, 0, #[], rfl, by omega, (by rw [← hB]; exact heap_alloc_new w2 _), by omega, by unfold maxLen; omega, rfl, rfl⟩⟩
  have HO0 := hid'' own0
  clear own0
  go_loopw [7, 8, 9, 10] (fun b k r i wr => ∃ (m kk g n1 cap : Nat) (rm : Bool) (out : List UInt8), m ≤ n ∧ i = .int .i64 m ∧ k = .int .i64 kk ∧ kk ≤ m ∧ r = .bool rm ∧ b = .slice (some ⟨g, 0, none⟩) n1 cap ∧ n1 ≤ 6 * m ∧ Hid (out.length = n1) ∧
      Hid (wr.ownsRow B 5 1 (.slice (some ⟨g, 0, none⟩) n1 cap) n1 (Lib.byteCells out)) ∧ Hid (out ++ WP.ST.gapT G rm kk (T.data.toList.drop m) = WP.ST.gapT G false 0 T.data.toList) ∧ Hid (Below B w2 wr) ∧ B ≤ wr.heap.size) (fun _ _ _ i _ => n - (intOf i).toNat)
  case atStart => exact ⟨0, 0, _, 0, 0, false, [], by omega, rfl, rfl, by omega, rfl, rfl, by omega, rfl, HO0, by show _ = _; rw [List.drop_zero]; rfl, by rw [← hB]; exact (Below.refl _ _).alloc (by omega) _, by simp; omega⟩
  case round =>
    clear HO0
    obtain ⟨m, kk, g, n1, cap, rm, out, hm, rfl, rfl, hkm, rfl, rfl, hn1, HL, HO, HT, HB, hBr⟩ := hrel
    cases hl : T.data.toList.drop m with
    | nil =>
      have hms := drop_nil T m hl
      obtain rfl : m = n := by have := HN.out; omega
      have HF : Hid (out = WP.ST.gapT G false 0 T.data.toList) := by
        have := HT.out
        rw [hl] at this
        show _ = _
        rw [← this]
        simp [WP.ST.gapT]
      clear hl HT hms
      have BR : Hid (Below w.heap.size w wr) := chain B2.out (by rw [hB]; exact HB.out)
      have ER : Hid (ErrP wr x) := HP.out.below BR.out
      have k1 := hid'' (src_e2 T x wr (by have := HN.out; omega) ER)
      have HS : Hid ((⟨out.toArray⟩ : ByteArray).size ≤ 60000) := by
        show _ ≤ _
        have := gapT_six G HGm.out T.data.toList false 0
        have h2 := Lib.size_eq T
        have h3 := HN.out
        rw [Lib.size_eq, HF.out]
        simp only at *
        omega
      have k2 : Hid (∀ W, Hid (ErrP W x) → Calls Tryz.prog 6 #[.string ⟨out.toArray⟩] W (SrcE2 W (PP.src out))) := fun W h => by
        have := src_e2 ⟨out.toArray⟩ x W HS.out h
        simpa using this
      have hcv : Hid (∀ W, Below wr.heap.size wr W → (convert 28 9 (.slice (some ⟨g, 0, none⟩) n1 cap)).run Tryz.prog W = .ok (.string ⟨out.toArray⟩) W) := fun W hW => by
        have hl1 := HL.out
        have hOO := HO.out
        subst hl1
        refine run_convert_bytes_back W 28 9 5 ⟨g, 0, none⟩ cap out Tryz.underlying28 Tryz.underlying5 Tryz.underlying9 (fun j hj => ?_)
        have h1 := own_byte hOO j hj
        have h2 := World.block_lt_of_cell? wr _ h1
        rw [hW.cell (p := (⟨g, 0, none⟩ : Addr).add j) h2]
        exact h1
      have hrel := PP.src_gap G HGm.out T.data.toList
      rw [← HF.out] at hrel
      have HREL := hid'' hrel
      generalize PP.src T.data.toList = R1 at k1 HREL
      generalize PP.src out = R2 at k2 HREL
      obtain ⟨U, hU⟩ : ∃ U : ByteArray, (⟨out.toArray⟩ : ByteArray) = U := ⟨_, rfl⟩
      rw [hU] at k2 hcv
      clear hU HF HL HO HS ER hrel HC R0 HN HG HGm
      go_upto_region 22 with (first
        | (have v1 := u1; go_at_call 6; refine (k2.out _ (HP.out.below B3.out)).mono ?_; rintro e w4 ⟨hb2, Y2, y21, y22, y23, y24, d21, d22, d23, d24, ev2, rfl, hat2, hm2⟩
           have HB4 := hid'' hb2
           have HA2 := hid'' hat2
           have HM2 := hid'' hm2
           clear hb2 hat2 hm2)
        | (go_at_call 6; refine k1.out.mono ?_; rintro e w3 ⟨hb1, Y1, y11, y12, y13, y14, d11, d12, d13, d14, ev1, rfl, hat1, hm1⟩
           have HB3 := hid'' hb1
           have B3 : Hid (Below w.heap.size w (w3.alloc (.cells #[.int .i64 (Y1.w : Nat), .int .i64 (Y1.h : Nat), .int .i64 (Y1.scale : Nat), .slice y11 Y1.consts.length d11, .slice y12 Y1.colors.length d12, .slice y13 Y1.shapes.length d13, .slice y14 Y1.cmds.length d14] 35))) := (chain BR.out hb1).alloc (chain BR.out hb1).size _
           have hcv3 := hcv.out (w3.alloc (.cells #[.int .i64 (Y1.w : Nat), .int .i64 (Y1.h : Nat), .int .i64 (Y1.scale : Nat), .slice y11 Y1.consts.length d11, .slice y12 Y1.colors.length d12, .slice y13 Y1.shapes.length d13, .slice y14 Y1.cmds.length d14] 35)) (hb1.alloc hb1.size _)
           have HA1 := hid'' hat1
           have HM1 := hid'' hm1
           have u1 : True := trivial
           clear hb1 hat1 hm1))
      obtain ⟨W4, hW4⟩ : ∃ W4, w4.alloc (.cells #[.int .i64 (Y2.w : Nat), .int .i64 (Y2.h : Nat), .int .i64 (Y2.scale : Nat), .slice y21 Y2.consts.length d21, .slice y22 Y2.colors.length d22, .slice y23 Y2.shapes.length d23, .slice y24 Y2.cmds.length d24] 35) = W4 := ⟨_, rfl⟩
      have hz34 : w3.heap.size < w4.heap.size := by have := HB4.out.size; simp at this; omega
      have hz4 : w4.heap.size < W4.heap.size := by rw [← hW4]; simp
      have BW : Hid (Below w.heap.size w W4) := by rw [← hW4]; exact (chain B3.out HB4.out).alloc (chain B3.out HB4.out).size _
      have q1 : Blk W4 w3.heap.size 35 #[.int .i64 (Y1.w : Nat), .int .i64 (Y1.h : Nat), .int .i64 (Y1.scale : Nat), .slice y11 Y1.consts.length d11, .slice y12 Y1.colors.length d12, .slice y13 Y1.shapes.length d13, .slice y14 Y1.cmds.length d14] := by
        rw [← hW4]
        exact ((blk_new w3 35 _).below HB4.out (by simp)).alloc _
      have q2 : Blk W4 w4.heap.size 35 #[.int .i64 (Y2.w : Nat), .int .i64 (Y2.h : Nat), .int .i64 (Y2.scale : Nat), .slice y21 Y2.consts.length d21, .slice y22 Y2.colors.length d22, .slice y23 Y2.shapes.length d23, .slice y24 Y2.cmds.length d24] := by
        rw [← hW4]
        exact blk_new w4 35 _
      have A1 : SrcAt W4 Y1 (.slice y11 Y1.consts.length d11) (.slice y12 Y1.colors.length d12) (.slice y13 Y1.shapes.length d13) (.slice y14 Y1.cmds.length d14) := by
        rw [← hW4]
        exact SrcAt.below HA1.out ((((Below.refl _ _).alloc (Nat.le_refl _) _).trans (HB4.out.mono (by simp))).alloc (by omega) _)
      have A2 : SrcAt W4 Y2 (.slice y21 Y2.consts.length d21) (.slice y22 Y2.colors.length d22) (.slice y23 Y2.shapes.length d23) (.slice y24 Y2.cmds.length d24) := by
        rw [← hW4]
        exact SrcAt.below HA2.out ((Below.refl _ _).alloc (Nat.le_refl _) _)
      have hcase : Y1.z = Y2.z ∧ ((ev1 = .nilIface ∧ ev2 = .nilIface) ∨ ∃ e1 e2 : Nat, ev1 = .iface 75 (.pointer (some ⟨e1, 0, none⟩)) ∧ ev2 = .iface 75 (.pointer (some ⟨e2, 0, none⟩))) := by
        have m1 := HM1.out
        have m2 := HM2.out
        rcases HREL.out with ⟨X1, X2, r1, r2, r3⟩ | ⟨x1, x2, r1, r2⟩
        · rw [r1] at m1
          rw [r2] at m2
          obtain ⟨f1, rfl⟩ := m1
          obtain ⟨f2, rfl⟩ := m2
          exact ⟨r3, .inl ⟨f1, f2⟩⟩
        · rw [r1] at m1
          rw [r2] at m2
          obtain ⟨⟨e1, f1⟩, rfl⟩ := m1
          obtain ⟨⟨e2, f2⟩, rfl⟩ := m2
          exact ⟨rfl, .inr ⟨e1, e2, f1, f2⟩⟩
      obtain ⟨hzz, hev⟩ := hcase
      have kS : Hid (∀ W, Below W4.heap.size W4 W → Calls Tryz.prog 7 #[srcV Y1 (.slice y11 Y1.consts.length d11) (.slice y12 Y1.colors.length d12) (.slice y13 Y1.shapes.length d13) (.slice y14 Y1.cmds.length d14), srcV Y2 (.slice y21 Y2.consts.length d21) (.slice y22 Y2.colors.length d22) (.slice y23 Y2.shapes.length d23) (.slice y24 Y2.cmds.length d24), .bool false] W fun e w' => e = .returned (.bool true) ∧ Below W.heap.size W w') :=
        fun W hW => same_src Y1 Y2 _ _ _ _ _ _ _ _ W (A1.below hW) (A2.below hW) hzz
      unfold srcV at kS
      rw [hW4]
      have hne := Grown.some W4
      have c10 := Grown.cell (w := W4) (show w3.heap.size < W4.heap.size by omega) ((q1.cell 0).trans rfl)
      have c11 := Grown.cell (w := W4) (show w3.heap.size < W4.heap.size by omega) ((q1.cell 1).trans rfl)
      have c12 := Grown.cell (w := W4) (show w3.heap.size < W4.heap.size by omega) ((q1.cell 2).trans rfl)
      have c13 := Grown.cell (w := W4) (show w3.heap.size < W4.heap.size by omega) ((q1.cell 3).trans rfl)
      have c14 := Grown.cell (w := W4) (show w3.heap.size < W4.heap.size by omega) ((q1.cell 4).trans rfl)
      have c15 := Grown.cell (w := W4) (show w3.heap.size < W4.heap.size by omega) ((q1.cell 5).trans rfl)
      have c16 := Grown.cell (w := W4) (show w3.heap.size < W4.heap.size by omega) ((q1.cell 6).trans rfl)
      have c20 := Grown.cell (w := W4) (show w4.heap.size < W4.heap.size by omega) ((q2.cell 0).trans rfl)
      have c21 := Grown.cell (w := W4) (show w4.heap.size < W4.heap.size by omega) ((q2.cell 1).trans rfl)
      have c22 := Grown.cell (w := W4) (show w4.heap.size < W4.heap.size by omega) ((q2.cell 2).trans rfl)
      have c23 := Grown.cell (w := W4) (show w4.heap.size < W4.heap.size by omega) ((q2.cell 3).trans rfl)
      have c24 := Grown.cell (w := W4) (show w4.heap.size < W4.heap.size by omega) ((q2.cell 4).trans rfl)
      have c25 := Grown.cell (w := W4) (show w4.heap.size < W4.heap.size by omega) ((q2.cell 5).trans rfl)
      have c26 := Grown.cell (w := W4) (show w4.heap.size < W4.heap.size by omega) ((q2.cell 6).trans rfl)
      clear A1 A2 hzz HM1 HM2 HA1 HA2 HREL HB3 HB4 B3 hcv hcv3 k1 k2 q1 q2 hW4
      rcases hev with ⟨rfl, rfl⟩ | ⟨e1, e2, rfl, rfl⟩
      all_goals
        refine wp_region_grow (by kernel_rfl) (by kernel_rfl) ?_
        repeat (go_big_quiet_step ((go_at_call 7; exact grow_of (kS.out _ (Grown.below _)))))
        refine wpQuiet_nil ?_
        rintro _ ⟨G, rfl⟩
        go_wp2
        go_ret
        exact ⟨rfl, chain BW.out G.below⟩
    | cons c t =>
      obtain ⟨hlt, hc, ht⟩ := at_drop T m c t hl
      have hmn : m < n := by have := HN.out; omega
      have hmi : (m : Int) < (n : Int) := by omega
      have HT2 := HT.out
      rw [hl, WP.ST.gapT_cons, ← ht] at HT2
      have HTT := hid'' HT2
      clear hl ht HT HT2
      by_cases c32 : c = 32
      · subst c32
        cases rm with
        | false =>
          have hif : ((32 : UInt8) == 32 && !WP.ST.rem1 false 32) = true := rfl
          rw [hif, if_pos rfl, show WP.ST.rem1 false 32 = false from rfl] at HTT
          have hlp : (0 : Int) < (len1 : Int) := by omega
          have hρ : ((kk : Int).tmod (len1 : Int)) = ((kk % len1 : Nat) : Int) := by
            rw [Int.tmod_eq_emod_of_nonneg (by omega)]
            omega
          have hρl := Nat.mod_lt kk (show 0 < len1 by omega)
          have HGk : Hid (G kk = WP.ST.gtx.getD (((z1.getD (kk % len1) 0).tmod 4 + 4).tmod 4).toNat [32]) := by show _ = _; rw [← HG.out]; rfl
          obtain ⟨ρ, hρe⟩ : ∃ ρ, kk % len1 = ρ := ⟨_, rfl⟩
          rw [hρe] at hρ hρl HGk
          obtain ⟨hyb, hyc, hz0, hz3⟩ := HC.out ρ (by omega)
          generalize z1.getD ρ 0 = z at hyc hz0 hz3 HGk
          have hr1 := rem_bound z 4 (by omega)
          obtain ⟨t1, ht1⟩ : ∃ t1, z.tmod 4 = t1 := ⟨_, rfl⟩
          rw [ht1] at hr1 HGk
          have hr2 : 0 ≤ (t1 + 4).tmod 4 ∧ (t1 + 4).tmod 4 < 4 := by
            rw [Int.tmod_eq_emod_of_nonneg (by omega)]
            omega
          obtain ⟨q, hq⟩ : ∃ q, (t1 + 4).tmod 4 = q := ⟨_, rfl⟩
          rw [hq] at hr2 HGk
          have hlz : ¬ ((len1 : Int) = 0) := by omega
          have hlz2 : ((len1 : Int) == 0) = false := by simpa using hlz
          have hρi : (ρ : Int) < (len1 : Int) := by omega
          have hb2s := B2.out.size
          have hyw : wr.cell? (y.add ρ) = some (.int .i64 z) := by
            rw [HB.out.cell (p := y.add ρ) (by rw [TX.add_block]; omega), B2.out.cell (p := y.add ρ) (by rw [TX.add_block]; exact hyb)]
            exact hyc
          have hyv : (wr.alloc (.cells #[.string ⟨#[32]⟩, .string ⟨#[10]⟩, .string ⟨#[9, 32]⟩, .string ⟨#[32, 47, 47, 32, 120, 10]⟩] 9)).cell? (y.add ρ) = some (.int .i64 z) := by
            rw [World.cell?_of_block (Below.heap_alloc _ _ _ (by rw [TX.add_block]; omega))]
            exact hyw
          have hc32 : ∀ h, T[m]'h = 32 := hc
          have hq4 : q = 0 ∨ q = 1 ∨ q = 2 ∨ q = 3 := by omega
          have hr1a : -3 ≤ t1 := by omega
          have hr1b : t1 ≤ 3 := by omega
          clear hr1 hyc hc
          rcases hq4 with rfl | rfl | rfl | rfl
          · have HGe : Hid (G kk = [32]) := HGk.out
            go_wp2_with (at_builtin; refine Lib.wpList_append_own_string _ rfl (.tmp 62) (.tmp 75) 28 9 rfl B 5 i0 Tryz.underlying28 Tryz.underlying9 hi hy0 hy1 hy2 _ _ _ rfl (HO.out.alloc _) ⟨#[32]⟩ rfl ?c3 ?c4 ?c5 ?_)
            case c3 => rw [show (⟨#[32]⟩ : ByteArray).size = 1 from rfl]; unfold maxLen; omega
            case c4 => rw [show (⟨#[32]⟩ : ByteArray).size = 1 from rfl]; omega
            case c5 => simp; omega
            intro v' w5 hown' hgrow _
            obtain ⟨g2, cap2, rfl⟩ : ∃ g2 cap2, v' = .slice (some ⟨g2, 0, none⟩) (n1 + 1) cap2 := by
              rcases hown'.2 with ⟨_, h0⟩ | ⟨g2, cap2, cur, hv, _⟩
              · omega
              · exact ⟨g2, cap2, hv⟩
            have hb5 : Hid (Below B w2 w5) := (HB.out.alloc (by omega) _).grown hgrow (by simp; omega) (fun k hk => (HO.out.lt k hk).1)
            have hz5 : B ≤ w5.heap.size := by have := hgrow.size; simp at this; omega
            have HO5 : Hid (w5.ownsRow B 5 1 (.slice (some ⟨g2, 0, none⟩) (n1 + 1) cap2) (n1 + 1) (Lib.byteCells (out ++ [32]))) := by
              have e : Lib.byteCells (out ++ [32]) = Lib.byteCells out ++ Lib.strCells ⟨#[32]⟩ := by simp [Lib.byteCells, Lib.strCells]
              rw [e]
              exact hown'
            clear hown' hgrow
            go_wp2
            go_roundw
            case rel => exact ⟨m + 1, kk + 1, g2, n1 + 1, cap2, false, out ++ [32], by omega, by go_num, by go_num, by omega, rfl, rfl, by omega, by show _ = _; rw [List.length_append, HL.out]; rfl, HO5, by show _ = _; rw [← HTT.out, HGe.out, List.append_assoc], hb5, hz5⟩
            case measure => simp [intOf]; omega
          · have HGe : Hid (G kk = [10]) := HGk.out
            go_wp2_with (at_builtin; refine Lib.wpList_append_own_string _ rfl (.tmp 62) (.tmp 75) 28 9 rfl B 5 i0 Tryz.underlying28 Tryz.underlying9 hi hy0 hy1 hy2 _ _ _ rfl (HO.out.alloc _) ⟨#[10]⟩ rfl ?c3 ?c4 ?c5 ?_)
            case c3 => rw [show (⟨#[10]⟩ : ByteArray).size = 1 from rfl]; unfold maxLen; omega
            case c4 => rw [show (⟨#[10]⟩ : ByteArray).size = 1 from rfl]; omega
            case c5 => simp; omega
            intro v' w5 hown' hgrow _
            obtain ⟨g2, cap2, rfl⟩ : ∃ g2 cap2, v' = .slice (some ⟨g2, 0, none⟩) (n1 + 1) cap2 := by
              rcases hown'.2 with ⟨_, h0⟩ | ⟨g2, cap2, cur, hv, _⟩
              · omega
              · exact ⟨g2, cap2, hv⟩
            have hb5 : Hid (Below B w2 w5) := (HB.out.alloc (by omega) _).grown hgrow (by simp; omega) (fun k hk => (HO.out.lt k hk).1)
            have hz5 : B ≤ w5.heap.size := by have := hgrow.size; simp at this; omega
            have HO5 : Hid (w5.ownsRow B 5 1 (.slice (some ⟨g2, 0, none⟩) (n1 + 1) cap2) (n1 + 1) (Lib.byteCells (out ++ [10]))) := by
              have e : Lib.byteCells (out ++ [10]) = Lib.byteCells out ++ Lib.strCells ⟨#[10]⟩ := by simp [Lib.byteCells, Lib.strCells]
              rw [e]
              exact hown'
            clear hown' hgrow
            go_wp2
            go_roundw
            case rel => exact ⟨m + 1, kk + 1, g2, n1 + 1, cap2, false, out ++ [10], by omega, by go_num, by go_num, by omega, rfl, rfl, by omega, by show _ = _; rw [List.length_append, HL.out]; rfl, HO5, by show _ = _; rw [← HTT.out, HGe.out, List.append_assoc], hb5, hz5⟩
            case measure => simp [intOf]; omega
          · have HGe : Hid (G kk = [9, 32]) := HGk.out
            go_wp2_with (at_builtin; refine Lib.wpList_append_own_string _ rfl (.tmp 62) (.tmp 75) 28 9 rfl B 5 i0 Tryz.underlying28 Tryz.underlying9 hi hy0 hy1 hy2 _ _ _ rfl (HO.out.alloc _) ⟨#[9, 32]⟩ rfl ?c3 ?c4 ?c5 ?_)
            case c3 => rw [show (⟨#[9, 32]⟩ : ByteArray).size = 2 from rfl]; unfold maxLen; omega
            case c4 => rw [show (⟨#[9, 32]⟩ : ByteArray).size = 2 from rfl]; omega
            case c5 => simp; omega
            intro v' w5 hown' hgrow _
            obtain ⟨g2, cap2, rfl⟩ : ∃ g2 cap2, v' = .slice (some ⟨g2, 0, none⟩) (n1 + 2) cap2 := by
              rcases hown'.2 with ⟨_, h0⟩ | ⟨g2, cap2, cur, hv, _⟩
              · omega
              · exact ⟨g2, cap2, hv⟩
            have hb5 : Hid (Below B w2 w5) := (HB.out.alloc (by omega) _).grown hgrow (by simp; omega) (fun k hk => (HO.out.lt k hk).1)
            have hz5 : B ≤ w5.heap.size := by have := hgrow.size; simp at this; omega
            have HO5 : Hid (w5.ownsRow B 5 1 (.slice (some ⟨g2, 0, none⟩) (n1 + 2) cap2) (n1 + 2) (Lib.byteCells (out ++ [9, 32]))) := by
              have e : Lib.byteCells (out ++ [9, 32]) = Lib.byteCells out ++ Lib.strCells ⟨#[9, 32]⟩ := by simp [Lib.byteCells, Lib.strCells]
              rw [e]
              exact hown'
            clear hown' hgrow
            go_wp2
            go_roundw
            case rel => exact ⟨m + 1, kk + 1, g2, n1 + 2, cap2, false, out ++ [9, 32], by omega, by go_num, by go_num, by omega, rfl, rfl, by omega, by show _ = _; rw [List.length_append, HL.out]; rfl, HO5, by show _ = _; rw [← HTT.out, HGe.out, List.append_assoc], hb5, hz5⟩
            case measure => simp [intOf]; omega
          · have HGe : Hid (G kk = [32, 47, 47, 32, 120, 10]) := HGk.out
            go_wp2_with (at_builtin; refine Lib.wpList_append_own_string _ rfl (.tmp 62) (.tmp 75) 28 9 rfl B 5 i0 Tryz.underlying28 Tryz.underlying9 hi hy0 hy1 hy2 _ _ _ rfl (HO.out.alloc _) ⟨#[32, 47, 47, 32, 120, 10]⟩ rfl ?c3 ?c4 ?c5 ?_)
            case c3 => rw [show (⟨#[32, 47, 47, 32, 120, 10]⟩ : ByteArray).size = 6 from rfl]; unfold maxLen; omega
            case c4 => rw [show (⟨#[32, 47, 47, 32, 120, 10]⟩ : ByteArray).size = 6 from rfl]; omega
            case c5 => simp; omega
            intro v' w5 hown' hgrow _
            obtain ⟨g2, cap2, rfl⟩ : ∃ g2 cap2, v' = .slice (some ⟨g2, 0, none⟩) (n1 + 6) cap2 := by
              rcases hown'.2 with ⟨_, h0⟩ | ⟨g2, cap2, cur, hv, _⟩
              · omega
              · exact ⟨g2, cap2, hv⟩
            have hb5 : Hid (Below B w2 w5) := (HB.out.alloc (by omega) _).grown hgrow (by simp; omega) (fun k hk => (HO.out.lt k hk).1)
            have hz5 : B ≤ w5.heap.size := by have := hgrow.size; simp at this; omega
            have HO5 : Hid (w5.ownsRow B 5 1 (.slice (some ⟨g2, 0, none⟩) (n1 + 6) cap2) (n1 + 6) (Lib.byteCells (out ++ [32, 47, 47, 32, 120, 10]))) := by
              have e : Lib.byteCells (out ++ [32, 47, 47, 32, 120, 10]) = Lib.byteCells out ++ Lib.strCells ⟨#[32, 47, 47, 32, 120, 10]⟩ := by simp [Lib.byteCells, Lib.strCells]
              rw [e]
              exact hown'
            clear hown' hgrow
            go_wp2
            go_roundw
            case rel => exact ⟨m + 1, kk + 1, g2, n1 + 6, cap2, false, out ++ [32, 47, 47, 32, 120, 10], by omega, by go_num, by go_num, by omega, rfl, rfl, by omega, by show _ = _; rw [List.length_append, HL.out]; rfl, HO5, by show _ = _; rw [← HTT.out, HGe.out, List.append_assoc], hb5, hz5⟩
            case measure => simp [intOf]; omega
        | true =>
          have hif : ((32 : UInt8) == 32 && !WP.ST.rem1 true 32) = false := rfl
          rw [hif, if_neg (by simp), show WP.ST.rem1 true 32 = true from rfl] at HTT
          have hc32 : ∀ h, T[m]'h = 32 := hc
          clear hc
          go_wp2_with (at_builtin; refine wpList_append_own _ rfl (.tmp 79) (.tmp 83) 28 rfl B 5 i0 (.int .u8 0) 1 1 Tryz.underlying28 hi hy0 hy1 hy2 rfl (by decide) _ _ _ rfl (HO.out.alloc _) ⟨wr.heap.size, 0, none⟩ 1 1 [.int .u8 32] rfl rfl ?c1 ?c2 ?c3 ?c4 ?c5 ?_)
          case c1 =>
            intro j u hj
            match j, hj with
            | 0, hj => simp at hj; subst hj; simp [Addr.add]
          case c2 => intro u hu; simp at hu; subst hu; rfl
          case c3 => unfold maxLen; omega
          case c4 => omega
          case c5 => simp; omega
          intro v' w5 hown' hgrow _
          obtain ⟨g2, cap2, rfl⟩ : ∃ g2 cap2, v' = .slice (some ⟨g2, 0, none⟩) (n1 + 1) cap2 := by
            rcases hown'.2 with ⟨_, h0⟩ | ⟨g2, cap2, cur, hv, _⟩
            · omega
            · exact ⟨g2, cap2, hv⟩
          have hb5 : Hid (Below B w2 w5) := (HB.out.alloc (by omega) _).grown hgrow (by simp; omega) (fun k hk => (HO.out.lt k hk).1)
          have hz5 : B ≤ w5.heap.size := by have := hgrow.size; simp at this; omega
          have HO5 : Hid (w5.ownsRow B 5 1 (.slice (some ⟨g2, 0, none⟩) (n1 + 1) cap2) (n1 + 1) (Lib.byteCells (out ++ [32]))) := by
            have e : Lib.byteCells (out ++ [32]) = Lib.byteCells out ++ [.int .u8 32] := by simp [Lib.byteCells]
            rw [e]
            exact hown'
          clear hown' hgrow
          go_wp2
          go_roundw
          case rel => exact ⟨m + 1, kk, g2, n1 + 1, cap2, true, out ++ [32], by omega, by go_num, rfl, by omega, rfl, rfl, by omega, by show _ = _; rw [List.length_append, HL.out]; rfl, HO5, by show _ = _; rw [← HTT.out]; simp, hb5, hz5⟩
          case measure => simp [intOf]; omega
      by_cases c47 : c = 47
      · subst c47
        have hcx : ∀ h, T[m]'h = 47 := hc
        clear hc c32
        cases rm with
        | false =>
          have hif : ((47 : UInt8) == 32 && !WP.ST.rem1 false 47) = false := rfl
          rw [hif, if_neg (by simp), show WP.ST.rem1 false 47 = true from rfl] at HTT
          go_wp2_with (at_builtin; refine wpList_append_own _ rfl (.tmp 79) (.tmp 83) 28 rfl B 5 i0 (.int .u8 0) 1 1 Tryz.underlying28 hi hy0 hy1 hy2 rfl (by decide) _ _ _ rfl (HO.out.alloc _) ⟨wr.heap.size, 0, none⟩ 1 1 [.int .u8 47] rfl rfl ?c1 ?c2 ?c3 ?c4 ?c5 ?_)
          case c1 =>
            intro j u hj
            match j, hj with
            | 0, hj => simp at hj; subst hj; simp [Addr.add]
          case c2 => intro u hu; simp at hu; subst hu; rfl
          case c3 => unfold maxLen; omega
          case c4 => omega
          case c5 => simp; omega
          intro v' w5 hown' hgrow _
          obtain ⟨g2, cap2, rfl⟩ : ∃ g2 cap2, v' = .slice (some ⟨g2, 0, none⟩) (n1 + 1) cap2 := by
            rcases hown'.2 with ⟨_, h0⟩ | ⟨g2, cap2, cur, hv, _⟩
            · omega
            · exact ⟨g2, cap2, hv⟩
          have hb5 : Hid (Below B w2 w5) := (HB.out.alloc (by omega) _).grown hgrow (by simp; omega) (fun k hk => (HO.out.lt k hk).1)
          have hz5 : B ≤ w5.heap.size := by have := hgrow.size; simp at this; omega
          have HO5 : Hid (w5.ownsRow B 5 1 (.slice (some ⟨g2, 0, none⟩) (n1 + 1) cap2) (n1 + 1) (Lib.byteCells (out ++ [47]))) := by
            have e : Lib.byteCells (out ++ [47]) = Lib.byteCells out ++ [.int .u8 47] := by simp [Lib.byteCells]
            rw [e]
            exact hown'
          clear hown' hgrow
          go_wp2
          go_roundw
          case rel => exact ⟨m + 1, kk, g2, n1 + 1, cap2, true, out ++ [47], by omega, by go_num, rfl, by omega, rfl, rfl, by omega, by show _ = _; rw [List.length_append, HL.out]; rfl, HO5, by show _ = _; rw [← HTT.out]; simp, hb5, hz5⟩
          case measure => simp [intOf]; omega
        | true =>
          have hif : ((47 : UInt8) == 32 && !WP.ST.rem1 true 47) = false := rfl
          rw [hif, if_neg (by simp), show WP.ST.rem1 true 47 = true from rfl] at HTT
          go_wp2_with (at_builtin; refine wpList_append_own _ rfl (.tmp 79) (.tmp 83) 28 rfl B 5 i0 (.int .u8 0) 1 1 Tryz.underlying28 hi hy0 hy1 hy2 rfl (by decide) _ _ _ rfl (HO.out.alloc _) ⟨wr.heap.size, 0, none⟩ 1 1 [.int .u8 47] rfl rfl ?c1 ?c2 ?c3 ?c4 ?c5 ?_)
          case c1 =>
            intro j u hj
            match j, hj with
            | 0, hj => simp at hj; subst hj; simp [Addr.add]
          case c2 => intro u hu; simp at hu; subst hu; rfl
          case c3 => unfold maxLen; omega
          case c4 => omega
          case c5 => simp; omega
          intro v' w5 hown' hgrow _
          obtain ⟨g2, cap2, rfl⟩ : ∃ g2 cap2, v' = .slice (some ⟨g2, 0, none⟩) (n1 + 1) cap2 := by
            rcases hown'.2 with ⟨_, h0⟩ | ⟨g2, cap2, cur, hv, _⟩
            · omega
            · exact ⟨g2, cap2, hv⟩
          have hb5 : Hid (Below B w2 w5) := (HB.out.alloc (by omega) _).grown hgrow (by simp; omega) (fun k hk => (HO.out.lt k hk).1)
          have hz5 : B ≤ w5.heap.size := by have := hgrow.size; simp at this; omega
          have HO5 : Hid (w5.ownsRow B 5 1 (.slice (some ⟨g2, 0, none⟩) (n1 + 1) cap2) (n1 + 1) (Lib.byteCells (out ++ [47]))) := by
            have e : Lib.byteCells (out ++ [47]) = Lib.byteCells out ++ [.int .u8 47] := by simp [Lib.byteCells]
            rw [e]
            exact hown'
          clear hown' hgrow
          go_wp2
          go_roundw
          case rel => exact ⟨m + 1, kk, g2, n1 + 1, cap2, true, out ++ [47], by omega, by go_num, rfl, by omega, rfl, rfl, by omega, by show _ = _; rw [List.length_append, HL.out]; rfl, HO5, by show _ = _; rw [← HTT.out]; simp, hb5, hz5⟩
          case measure => simp [intOf]; omega
      by_cases c10 : c = 10
      · subst c10
        have hcx : ∀ h, T[m]'h = 10 := hc
        clear hc c32
        cases rm with
        | false =>
          have hif : ((10 : UInt8) == 32 && !WP.ST.rem1 false 10) = false := rfl
          rw [hif, if_neg (by simp), show WP.ST.rem1 false 10 = false from rfl] at HTT
          go_wp2_with (at_builtin; refine wpList_append_own _ rfl (.tmp 79) (.tmp 83) 28 rfl B 5 i0 (.int .u8 0) 1 1 Tryz.underlying28 hi hy0 hy1 hy2 rfl (by decide) _ _ _ rfl (HO.out.alloc _) ⟨wr.heap.size, 0, none⟩ 1 1 [.int .u8 10] rfl rfl ?c1 ?c2 ?c3 ?c4 ?c5 ?_)
          case c1 =>
            intro j u hj
            match j, hj with
            | 0, hj => simp at hj; subst hj; simp [Addr.add]
          case c2 => intro u hu; simp at hu; subst hu; rfl
          case c3 => unfold maxLen; omega
          case c4 => omega
          case c5 => simp; omega
          intro v' w5 hown' hgrow _
          obtain ⟨g2, cap2, rfl⟩ : ∃ g2 cap2, v' = .slice (some ⟨g2, 0, none⟩) (n1 + 1) cap2 := by
            rcases hown'.2 with ⟨_, h0⟩ | ⟨g2, cap2, cur, hv, _⟩
            · omega
            · exact ⟨g2, cap2, hv⟩
          have hb5 : Hid (Below B w2 w5) := (HB.out.alloc (by omega) _).grown hgrow (by simp; omega) (fun k hk => (HO.out.lt k hk).1)
          have hz5 : B ≤ w5.heap.size := by have := hgrow.size; simp at this; omega
          have HO5 : Hid (w5.ownsRow B 5 1 (.slice (some ⟨g2, 0, none⟩) (n1 + 1) cap2) (n1 + 1) (Lib.byteCells (out ++ [10]))) := by
            have e : Lib.byteCells (out ++ [10]) = Lib.byteCells out ++ [.int .u8 10] := by simp [Lib.byteCells]
            rw [e]
            exact hown'
          clear hown' hgrow
          go_wp2
          go_roundw
          case rel => exact ⟨m + 1, kk, g2, n1 + 1, cap2, false, out ++ [10], by omega, by go_num, rfl, by omega, rfl, rfl, by omega, by show _ = _; rw [List.length_append, HL.out]; rfl, HO5, by show _ = _; rw [← HTT.out]; simp, hb5, hz5⟩
          case measure => simp [intOf]; omega
        | true =>
          have hif : ((10 : UInt8) == 32 && !WP.ST.rem1 true 10) = false := rfl
          rw [hif, if_neg (by simp), show WP.ST.rem1 true 10 = false from rfl] at HTT
          go_wp2_with (at_builtin; refine wpList_append_own _ rfl (.tmp 79) (.tmp 83) 28 rfl B 5 i0 (.int .u8 0) 1 1 Tryz.underlying28 hi hy0 hy1 hy2 rfl (by decide) _ _ _ rfl (HO.out.alloc _) ⟨wr.heap.size, 0, none⟩ 1 1 [.int .u8 10] rfl rfl ?c1 ?c2 ?c3 ?c4 ?c5 ?_)
          case c1 =>
            intro j u hj
            match j, hj with
            | 0, hj => simp at hj; subst hj; simp [Addr.add]
          case c2 => intro u hu; simp at hu; subst hu; rfl
          case c3 => unfold maxLen; omega
          case c4 => omega
          case c5 => simp; omega
          intro v' w5 hown' hgrow _
          obtain ⟨g2, cap2, rfl⟩ : ∃ g2 cap2, v' = .slice (some ⟨g2, 0, none⟩) (n1 + 1) cap2 := by
            rcases hown'.2 with ⟨_, h0⟩ | ⟨g2, cap2, cur, hv, _⟩
            · omega
            · exact ⟨g2, cap2, hv⟩
          have hb5 : Hid (Below B w2 w5) := (HB.out.alloc (by omega) _).grown hgrow (by simp; omega) (fun k hk => (HO.out.lt k hk).1)
          have hz5 : B ≤ w5.heap.size := by have := hgrow.size; simp at this; omega
          have HO5 : Hid (w5.ownsRow B 5 1 (.slice (some ⟨g2, 0, none⟩) (n1 + 1) cap2) (n1 + 1) (Lib.byteCells (out ++ [10]))) := by
            have e : Lib.byteCells (out ++ [10]) = Lib.byteCells out ++ [.int .u8 10] := by simp [Lib.byteCells]
            rw [e]
            exact hown'
          clear hown' hgrow
          go_wp2
          go_roundw
          case rel => exact ⟨m + 1, kk, g2, n1 + 1, cap2, false, out ++ [10], by omega, by go_num, rfl, by omega, rfl, rfl, by omega, by show _ = _; rw [List.length_append, HL.out]; rfl, HO5, by show _ = _; rw [← HTT.out]; simp, hb5, hz5⟩
          case measure => simp [intOf]; omega
      have e32 : (c == 32) = false := by simpa using c32
      have e47 : (c == 47) = false := by simpa using c47
      have e10 : (c == 10) = false := by simpa using c10
      have n32 : ((c.toNat : Int) == 32) = false := by
        have : c.toNat ≠ 32 := fun e => c32 (UInt8.toNat_inj.1 e)
        simp; omega
      have n47 : ((c.toNat : Int) == 47) = false := by
        have : c.toNat ≠ 47 := fun e => c47 (UInt8.toNat_inj.1 e)
        simp; omega
      have n10 : ((c.toNat : Int) == 10) = false := by
        have : c.toNat ≠ 10 := fun e => c10 (UInt8.toNat_inj.1 e)
        simp; omega
      have hif : ∀ r, (c == 32 && !WP.ST.rem1 r c) = false := fun r => by rw [e32]; rfl
      have hrm : ∀ r, WP.ST.rem1 r c = r := fun r => by unfold WP.ST.rem1; rw [e47, e10]; cases r <;> rfl
      rw [hif, if_neg (by simp), hrm] at HTT
      clear c32 c47 c10 e32 e47 e10 hif hrm
      cases rm with
      | false =>
        go_wp2_with (at_builtin; refine wpList_append_own _ rfl (.tmp 79) (.tmp 83) 28 rfl B 5 i0 (.int .u8 0) 1 1 Tryz.underlying28 hi hy0 hy1 hy2 rfl (by decide) _ _ _ rfl (HO.out.alloc _) ⟨wr.heap.size, 0, none⟩ 1 1 [.int .u8 (c.toNat : Int)] rfl rfl ?c1 ?c2 ?c3 ?c4 ?c5 ?_)
        case c1 =>
          intro j u hj
          match j, hj with
          | 0, hj => simp at hj; subst hj; simp [Addr.add]
        case c2 => intro u hu; simp at hu; subst hu; rfl
        case c3 => unfold maxLen; omega
        case c4 => omega
        case c5 => simp; omega
        intro v' w5 hown' hgrow _
        obtain ⟨g2, cap2, rfl⟩ : ∃ g2 cap2, v' = .slice (some ⟨g2, 0, none⟩) (n1 + 1) cap2 := by
          rcases hown'.2 with ⟨_, h0⟩ | ⟨g2, cap2, cur, hv, _⟩
          · omega
          · exact ⟨g2, cap2, hv⟩
        have hb5 : Hid (Below B w2 w5) := (HB.out.alloc (by omega) _).grown hgrow (by simp; omega) (fun k hk => (HO.out.lt k hk).1)
        have hz5 : B ≤ w5.heap.size := by have := hgrow.size; simp at this; omega
        have HO5 : Hid (w5.ownsRow B 5 1 (.slice (some ⟨g2, 0, none⟩) (n1 + 1) cap2) (n1 + 1) (Lib.byteCells (out ++ [c]))) := by
          have e : Lib.byteCells (out ++ [c]) = Lib.byteCells out ++ [.int .u8 (c.toNat : Int)] := by simp [Lib.byteCells]
          rw [e]
          exact hown'
        clear hown' hgrow
        go_wp2
        go_roundw
        case rel => exact ⟨m + 1, kk, g2, n1 + 1, cap2, false, out ++ [c], by omega, by go_num, rfl, by omega, rfl, rfl, by omega, by show _ = _; rw [List.length_append, HL.out]; rfl, HO5, by show _ = _; rw [← HTT.out]; simp, hb5, hz5⟩
        case measure => simp [intOf]; omega
      | true =>
        go_wp2_with (at_builtin; refine wpList_append_own _ rfl (.tmp 79) (.tmp 83) 28 rfl B 5 i0 (.int .u8 0) 1 1 Tryz.underlying28 hi hy0 hy1 hy2 rfl (by decide) _ _ _ rfl (HO.out.alloc _) ⟨wr.heap.size, 0, none⟩ 1 1 [.int .u8 (c.toNat : Int)] rfl rfl ?c1 ?c2 ?c3 ?c4 ?c5 ?_)
        case c1 =>
          intro j u hj
          match j, hj with
          | 0, hj => simp at hj; subst hj; simp [Addr.add]
        case c2 => intro u hu; simp at hu; subst hu; rfl
        case c3 => unfold maxLen; omega
        case c4 => omega
        case c5 => simp; omega
        intro v' w5 hown' hgrow _
        obtain ⟨g2, cap2, rfl⟩ : ∃ g2 cap2, v' = .slice (some ⟨g2, 0, none⟩) (n1 + 1) cap2 := by
          rcases hown'.2 with ⟨_, h0⟩ | ⟨g2, cap2, cur, hv, _⟩
          · omega
          · exact ⟨g2, cap2, hv⟩
        have hb5 : Hid (Below B w2 w5) := (HB.out.alloc (by omega) _).grown hgrow (by simp; omega) (fun k hk => (HO.out.lt k hk).1)
        have hz5 : B ≤ w5.heap.size := by have := hgrow.size; simp at this; omega
        have HO5 : Hid (w5.ownsRow B 5 1 (.slice (some ⟨g2, 0, none⟩) (n1 + 1) cap2) (n1 + 1) (Lib.byteCells (out ++ [c]))) := by
          have e : Lib.byteCells (out ++ [c]) = Lib.byteCells out ++ [.int .u8 (c.toNat : Int)] := by simp [Lib.byteCells]
          rw [e]
          exact hown'
        clear hown' hgrow
        go_wp2
        go_roundw
        case rel => exact ⟨m + 1, kk, g2, n1 + 1, cap2, true, out ++ [c], by omega, by go_num, rfl, by omega, rfl, rfl, by omega, by show _ = _; rw [List.length_append, HL.out]; rfl, HO5, by show _ = _; rw [← HTT.out]; simp, hb5, hz5⟩
        case measure => simp [intOf]; omega

end Go.Proofs.YtenmkopiddmieabGreatDoor

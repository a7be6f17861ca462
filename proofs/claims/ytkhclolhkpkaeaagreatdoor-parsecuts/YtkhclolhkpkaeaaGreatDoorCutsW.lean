import Derived.Test.YtkhclolhkpkaeaaGreatDoorTxB
import Derived.Test.YtkhclolhkpkaeaaGreatDoorSimA
import Derived.OpenShut
import Derived.Test.YtkhclolhkpkaeaaGreatDoorJA
import Derived.Test.YtkhclolhkpkaeaaGreatDoorParseFirst
/-
  Numbers that came in as a slice.
-/
namespace Go.Proofs.YtkhclolhkpkaeaaGreatDoor
open Go.RowKit

/-- Integers that came in as a slice: none, or cell by cell. -/
def IsRow (k : IntKind) (w : World) (a : Option Addr) (len cap : Nat) (zs : List Int) : Prop :=
  (a = none ∧ len = 0 ∧ cap = 0 ∧ zs = []) ∨
  ∃ x, a = some x ∧ len ≤ cap ∧ cap ≤ maxLen ∧ zs.length = cap ∧ (∀ i, i < zs.length → w.cell? (x.add i) = some (.int k (zs.getD i 0))) ∧ ∀ n ∈ zs, (Lit.int k n).wf = true

end Go.Proofs.YtkhclolhkpkaeaaGreatDoor

/-
  A text that is cut ahead of its end is told at its end, or where a word was cut, or it is whole: walked over the program.
-/
namespace Go.Proofs.YtkhclolhkpkaeaaGreatDoor
open Go.RowKit

theorem seq_of_row {w w1 : World} {a : Option Addr} {len cap : Nat} {zs : List Int} (h : IsRow .i64 w a len cap zs) (hb : Below w.heap.size w w1) :
    TX.SeqOk (w1.alloc (.cells #[.slice a len cap, .int .i64 0] 27)) w1.heap.size 0 := by
  rcases h with ⟨rfl, rfl, rfl, -⟩ | ⟨x, rfl, hl, hm, hz, hc, hw⟩
  · exact ⟨none, 0, 0, 0, blk_new w1 27 _, by omega, by omega, by unfold maxLen; omega, fun j hj => absurd hj (by omega)⟩
  · refine ⟨some x, len, cap, 0, blk_new w1 27 _, by omega, hl, hm, fun j hj => ?_⟩
    have hj' : j < zs.length := by omega
    have h1 := hc j hj'
    have h2 := World.block_lt_of_cell? w _ h1
    have h3 := h2
    rw [TX.add_block] at h3
    have hlt : x.block < w1.heap.size := Nat.lt_of_lt_of_le h3 hb.size
    have hwf := hw (zs.getD j 0) (by simp [List.getD, hj'])
    refine ⟨x, zs.getD j 0, rfl, hlt, ?_, bounds_i64 hwf⟩
    have e : (w1.alloc (.cells #[.slice (some x) len cap, .int .i64 0] 27)).cell? (x.add j) = w1.cell? (x.add j) := World.cell?_of_block (Below.heap_alloc _ _ _ (by rw [TX.add_block]; exact hlt))
    rw [e, hb.cell (p := x.add j) h2]
    exact h1
theorem text_row {w w1 : World} {a : Option Addr} {len cap : Nat} {zs : List Int} (h : IsRow .i64 w a len cap zs) (hb : Below w.heap.size w w1) :
    Calls Tryz.prog 6 #[.pointer (some ⟨w1.heap.size, 0, none⟩)] (w1.alloc (.cells #[.slice a len cap, .int .i64 0] 27)) fun e w' => ∃ S : ByteArray, e = .returned (.string S) ∧ S.size ≤ 60000 ∧ Below w1.heap.size w1 w' := by
  refine (TX.text_st _ w1.heap.size 0 _ ⟨seq_of_row h hb, TX.Mk.refl _ _⟩ (by omega)).mono ?_
  rintro e w' ⟨S, rfl, hS, hst⟩
  exact ⟨S, rfl, hS, ((Below.refl _ _).alloc (Nat.le_refl _) _).trans (hst.out.2.low (Nat.le_refl _) (by simp))⟩

theorem rem_bound (a : Int) (m : Int) (hm : 0 < m) : -(m - 1) ≤ a.tmod m ∧ a.tmod m ≤ m - 1 := by
  rcases Int.le_total 0 a with h | h
  · rw [Int.tmod_eq_emod_of_nonneg h]
    have := Int.emod_nonneg a (Int.ne_of_gt hm)
    have := Int.emod_lt_of_pos a hm
    omega
  · have e : a.tmod m = -((-a).tmod m) := by rw [Int.neg_tmod]; omega
    rw [e, Int.tmod_eq_emod_of_nonneg (by omega)]
    have := Int.emod_nonneg (-a) (Int.ne_of_gt hm)
    have := Int.emod_lt_of_pos (-a) hm
    omega
theorem take_of (S : ByteArray) (k : Nat) : (S.extract 0 k).data.toList = S.data.toList.take k := by
  rw [ByteArray.data_extract]
  simp [List.extract_eq_take_drop]

/-- What Src answers, in one form: its error's value. -/
def SrcEv (w : World) (x : Cx) (R : Except (Nat × Nat) PP.Src) (e : Ending) (w' : World) : Prop :=
  Below w.heap.size w w' ∧ ∃ (n1 n2 n3 : Int) (a1 a2 a3 a4 : Option Addr) (l1 l2 l3 l4 c1 c2 c3 c4 : Nat) (ev : Value), e = .returned (.tuple #[.agg #[.int .i64 n1, .int .i64 n2, .int .i64 n3, .slice a1 l1 c1, .slice a2 l2 c2, .slice a3 l3 c3, .slice a4 l4 c4], ev]) ∧
    match R with
    | .ok _ => ev = .nilIface
    | .error c => ∃ g, ev = .iface 77 (.pointer (some ⟨g, 0, none⟩)) ∧ Blk w' g 82 #[.int .i64 (c.2 : Nat), errV x c.1]
theorem src_ev (s : ByteArray) (x : Cx) (w : World) (hs : s.size ≤ 60000) (hE : Hid (ErrP w x)) : Calls Tryz.prog 7 #[.string s] w (SrcEv w x (PP.src s.data.toList)) := by
  refine (src_any s x w hs hE).mono ?_
  rintro e w' ⟨hb, h⟩
  refine ⟨hb, ?_⟩
  cases hR : PP.src s.data.toList with
  | ok X =>
    rw [hR] at h
    obtain ⟨a1, a2, a3, a4, c1, c2, c3, c4, he, -⟩ := h
    exact ⟨_, _, _, a1, a2, a3, a4, _, _, _, _, c1, c2, c3, c4, _, he, rfl⟩
  | error c =>
    rw [hR] at h
    obtain ⟨g, he, hg⟩ := h
    exact ⟨0, 0, 0, none, none, none, none, 0, 0, 0, 0, 0, 0, 0, 0, _, he, g, rfl, hg⟩

set_option maxRecDepth 20000 in
set_option maxHeartbeats 4000000 in
theorem pcuts_at (a : Option Addr) (len cap : Nat) (zs : List Int) (pl : Int) (w : World) (A : Nat → Addr) (hE : Errs13 w A) (hl : IsRow .i64 w a len cap zs) (hlen : len ≤ maxLen) :
    Calls Tryz.prog 4 #[.slice a len cap, .int .i64 pl] w fun e w' => e = .returned (.bool true) ∧ Below w.heap.size w w' := by
  have HE := hid'' hE
  have HP : Hid (ErrP w ⟨A 0, A 5⟩) := ⟨(hE 0 (by omega)).1, (hE 5 (by omega)).1, by have := (hE 12 (by omega)).2.1; simp only [glob] at this; simp at this; omega⟩
  have HRow := hid'' hl
  unfold maxLen at hlen
  clear hE hl
  by_cases h250 : (250 : Int) < (len : Int)
  · go_enter Tryz.func4, Tryz.ntmps4
    go_wp2_with (first
      | (go_at_call 5; refine (first10_any _ w HP).mono ?_; rintro e w1 ⟨rfl, hb1⟩
         have B1 := hid'' hb1
         clear hb1))
    go_ret
    exact ⟨rfl, B1.out⟩
  · go_enter Tryz.func4, Tryz.ntmps4
    go_upto_region 7 with (first
      | (go_at_call 5; refine (first10_any _ w HP).mono ?_; rintro e w1 ⟨rfl, hb1⟩
         have B1 := hid'' hb1
         clear hb1)
      | (go_at_call 6; refine (text_row HRow.out B1.out).mono ?_; rintro e w2 ⟨T, rfl, hT, hb2⟩
         have B2 : Hid (Below w.heap.size w w2) := B1.out.trans (hb2.mono B1.out.size)
         clear hb2))
    obtain ⟨n, hn⟩ : ∃ n, T.size = n := ⟨_, rfl⟩
    have hTn : (T.size : Int) = (n : Int) := by omega
    rw [hn] at hT
    obtain ⟨t, ht⟩ : ∃ t, pl.tmod ((n : Int) + 1) = t := ⟨_, rfl⟩
    have hb0 := rem_bound pl ((n : Int) + 1) (by omega)
    rw [ht] at hb0
    obtain ⟨hb1, hb2⟩ := hb0
    obtain ⟨k, hk⟩ : ∃ k : Nat, (t + n + 1).tmod ((n : Int) + 1) = (k : Int) := by
      rw [Int.tmod_eq_emod_of_nonneg (by omega)]
      exact ⟨((t + n + 1) % ((n : Int) + 1)).toNat, by have := Int.emod_nonneg (t + n + 1) (show (n : Int) + 1 ≠ 0 by omega); omega⟩
    have hkn : (k : Int) ≤ (n : Int) := by
      have := rem_bound (t + n + 1) ((n : Int) + 1) (by omega)
      rw [hk] at this
      omega
    have hz : ¬ ((n : Int) + 1 = 0) := by omega
    have hz2 : (((n : Int) + 1) == 0) = false := by simpa using hz
    go_upto_region 8 with fail
    clear hb1 hb2 hz hz2 ht hk
    have E2 : Hid (ErrP w2 ⟨A 0, A 5⟩) := HP.out.below B2.out
    have k1 := hid'' (src_ev T ⟨A 0, A 5⟩ w2 (by omega) E2)
    have hkT : k ≤ T.size := by omega
    have hUz : (T.extract 0 k).size ≤ 60000 := by rw [Lib.size_eq, take_of, List.length_take]; have := Lib.size_eq T; omega
    have k2 : Hid (∀ W, Hid (ErrP W ⟨A 0, A 5⟩) → Calls Tryz.prog 7 #[.string (T.extract 0 k)] W (SrcEv W ⟨A 0, A 5⟩ (PP.src (T.data.toList.take k)))) := fun W h => by
      have := src_ev (T.extract 0 k) ⟨A 0, A 5⟩ W hUz h
      rw [take_of] at this
      exact this
    clear hUz E2
    go_upto_region 10 with (first
      | (have v1 := u1; go_at_call 7; refine (k2.out _ (HP.out.below B3.out)).mono ?_; rintro e w4 ⟨hb2, x21, x22, x23, y21, y22, y23, y24, l21, l22, l23, l24, d21, d22, d23, d24, ev2, rfl, hm2⟩
         have B4 : Hid (Below w.heap.size w (w4.alloc (.cells #[.int .i64 x21, .int .i64 x22, .int .i64 x23, .slice y21 l21 d21, .slice y22 l22 d22, .slice y23 l23 d23, .slice y24 l24 d24] 35))) := (chain B3.out hb2).alloc (chain B3.out hb2).size _
         have HM2 := hid'' hm2
         clear hb2 hm2)
      | (go_at_call 7; refine k1.out.mono ?_; rintro e w3 ⟨hb1, x11, x12, x13, y11, y12, y13, y14, l11, l12, l13, l14, d11, d12, d13, d14, ev1, rfl, hm1⟩
         have B3 : Hid (Below w.heap.size w (w3.alloc (.cells #[.int .i64 x11, .int .i64 x12, .int .i64 x13, .slice y11 l11 d11, .slice y12 l12 d12, .slice y13 l13 d13, .slice y14 l14 d14] 35))) := (chain B2.out hb1).alloc (chain B2.out hb1).size _
         have HM1 := hid'' hm1
         have u1 : True := trivial
         clear hb1 hm1))
    obtain ⟨W4, hW4⟩ : ∃ W4, w4.alloc (.cells #[.int .i64 x21, .int .i64 x22, .int .i64 x23, .slice y21 l21 d21, .slice y22 l22 d22, .slice y23 l23 d23, .slice y24 l24 d24] 35) = W4 := ⟨_, rfl⟩
    have HG : Hid (∀ g c, Blk w4 g 82 c → Blk W4 g 82 c) := fun g c h => by rw [← hW4]; exact Blk.alloc h _
    rw [hW4] at B4 ⊢
    clear hW4 k1 k2
    cases hR1 : PP.src T.data.toList with
    | error c1 =>
      rw [hR1] at HM1
      obtain ⟨g1, rfl, -⟩ := HM1.out
      clear hR1 HM1 HM2 HG
      go_wp2
      go_ret
      exact ⟨rfl, B4.out⟩
    | ok X =>
      rw [hR1] at HM1
      have he1 : ev1 = .nilIface := HM1.out
      subst he1
      clear HM1
      cases hR2 : PP.src (T.data.toList.take k) with
      | ok Y =>
        rw [hR2] at HM2
        have he2 : ev2 = .nilIface := HM2.out
        subst he2
        clear HM2 hR1 hR2 HG
        go_wp2_with (go_at_call 9; refine (fault_nil _).mono ?_; rintro e w5 ⟨rfl, hb5⟩; have B5 : Hid (Below w.heap.size w w5) := chain B4.out hb5; clear hb5)
        go_ret
        exact ⟨rfl, B5.out.alloc B5.out.size _⟩
      | error c2 =>
        rw [hR2] at HM2
        obtain ⟨c, p⟩ := c2
        obtain ⟨g2, rfl, hg2⟩ := HM2.out
        obtain ⟨hcc, hpk⟩ := PP.src_err hR2
        have hpk' : p ≤ k := by rw [List.length_take] at hpk; omega
        have hnp : ¬ ((k : Int) < (p : Int)) := by omega
        have hG2 := hid'' (HG.out _ _ hg2)
        have hcut : Hid (∀ b : UInt8, T.data.toList[k]? = some b → WP.Ends b → c = 0 ∧ p = k) := fun b h1 h2 => by
          rcases PP.src_cut hR1 h1 h2 with ⟨Y, hY⟩ | hY
          · rw [hR2] at hY; cases hY
          · rw [hR2] at hY
            simp only [Except.error.injEq, Prod.mk.injEq] at hY
            exact hY
        clear HM2 hR1 hR2 HG hg2 hpk
        by_cases hk2 : k < n
        · obtain ⟨b, hb⟩ : ∃ b, T.data.toList[k]? = some b := ⟨_, List.getElem?_eq_getElem (by rw [← Lib.size_eq]; omega)⟩
          have hbx : ∀ h, T[k]'h = b := fun h => by
            have h1 := List.getElem?_eq_some_iff.1 hb
            obtain ⟨h2, h3⟩ := h1
            rw [← h3]
            simp [ByteArray.getElem_eq_getElem_data]
          have hk3 : (k : Int) < (n : Int) := by omega
          by_cases h32 : b = 32
          · subst h32
            obtain ⟨rfl, rfl⟩ := hcut.out _ hb (.inl rfl)
            clear hcc hcut hb
            go_wp2_with (go_at_call 9; refine (fault_at A W4 (HE.out.below B4.out) 0 (by decide) (A 0) rfl g2 (p : Nat) hG2.out).mono ?_; rintro e w5 ⟨rfl, hb5⟩; have B5 : Hid (Below w.heap.size w w5) := chain B4.out hb5; clear hb5)
            go_ret
            exact ⟨rfl, B5.out.alloc B5.out.size _⟩
          · by_cases h10 : b = 10
            · subst h10
              obtain ⟨rfl, rfl⟩ := hcut.out _ hb (.inr rfl)
              clear hcc hcut hb
              go_wp2_with (go_at_call 9; refine (fault_at A W4 (HE.out.below B4.out) 0 (by decide) (A 0) rfl g2 (p : Nat) hG2.out).mono ?_; rintro e w5 ⟨rfl, hb5⟩; have B5 : Hid (Below w.heap.size w w5) := chain B4.out hb5; clear hb5)
              go_ret
              exact ⟨rfl, B5.out.alloc B5.out.size _⟩
            · have e32 : ((b.toNat : Int) == 32) = false := by simpa using (fun e : (b.toNat : Int) = 32 => h32 (UInt8.toNat_inj.1 (by show b.toNat = 32; omega)))
              have e10 : ((b.toNat : Int) == 10) = false := by simpa using (fun e : (b.toNat : Int) = 10 => h10 (UInt8.toNat_inj.1 (by show b.toNat = 10; omega)))
              have f32 : ¬ ((b.toNat : Int) = 32) := by simpa using e32
              have f10 : ¬ ((b.toNat : Int) = 10) := by simpa using e10
              clear hcut hb h32 h10
              rcases hcc with rfl | rfl
              · skip
                go_wp2_with (go_at_call 9; refine (fault_at A W4 (HE.out.below B4.out) 0 (by decide) (A 0) rfl g2 (p : Nat) hG2.out).mono ?_; rintro e w5 ⟨rfl, hb5⟩; have B5 : Hid (Below w.heap.size w w5) := chain B4.out hb5; clear hb5)
                go_ret
                exact ⟨rfl, B5.out.alloc B5.out.size _⟩
              · skip
                go_wp2_with (go_at_call 9; refine (fault_at A W4 (HE.out.below B4.out) 5 (by decide) (A 5) rfl g2 (p : Nat) hG2.out).mono ?_; rintro e w5 ⟨rfl, hb5⟩; have B5 : Hid (Below w.heap.size w w5) := chain B4.out hb5; clear hb5)
                go_ret
                exact ⟨rfl, B5.out.alloc B5.out.size _⟩
        · have hk3 : ¬ ((k : Int) < (n : Int)) := by omega
          clear hcut
          rcases hcc with rfl | rfl
          · skip
            go_wp2_with (go_at_call 9; refine (fault_at A W4 (HE.out.below B4.out) 0 (by decide) (A 0) rfl g2 (p : Nat) hG2.out).mono ?_; rintro e w5 ⟨rfl, hb5⟩; have B5 : Hid (Below w.heap.size w w5) := chain B4.out hb5; clear hb5)
            go_ret
            exact ⟨rfl, B5.out.alloc B5.out.size _⟩
          · skip
            go_wp2_with (go_at_call 9; refine (fault_at A W4 (HE.out.below B4.out) 5 (by decide) (A 5) rfl g2 (p : Nat) hG2.out).mono ?_; rintro e w5 ⟨rfl, hb5⟩; have B5 : Hid (Below w.heap.size w w5) := chain B4.out hb5; clear hb5)
            go_ret
            exact ⟨rfl, B5.out.alloc B5.out.size _⟩

end Go.Proofs.YtkhclolhkpkaeaaGreatDoor

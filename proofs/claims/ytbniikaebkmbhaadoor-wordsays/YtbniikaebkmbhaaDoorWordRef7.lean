/-
  The document's words of a text: walked over the document's text.
-/
import Derived.Test.YtbniikaebkmbhaaDoorWordRef6
namespace Go.Proofs.YtbniikaebkmbhaaDoor
open Go.RowKit

/-- The box of the answer's second part stays as it was. -/
theorem box3 {B : Nat} {W0 w1 : World} (h : Below (B + 1) W0 w1) (hc : ∀ j, W0.cell? ⟨B, j, none⟩ = (#[.int .i64 0, .bool false, .int .i64 0] : Array Value)[j]?) (hf : ∀ j, W0.frozen? ⟨B, j, none⟩ = false) :
    w1.cell? ⟨B, 0, none⟩ = some (.int .i64 0) ∧ w1.cell? ⟨B, 1, none⟩ = some (.bool false) ∧ w1.cell? ⟨B, 2, none⟩ = some (.int .i64 0) ∧ w1.frozen? ⟨B, 0, none⟩ = false ∧ w1.frozen? ⟨B, 1, none⟩ = false ∧ w1.frozen? ⟨B, 2, none⟩ = false :=
  ⟨(h.cell (p := ⟨B, 0, none⟩) (by show B < B + 1; omega)).trans (hc 0), (h.cell (p := ⟨B, 1, none⟩) (by show B < B + 1; omega)).trans (hc 1), (h.cell (p := ⟨B, 2, none⟩) (by show B < B + 1; omega)).trans (hc 2),
    (h.frozen (p := ⟨B, 0, none⟩) (by show B < B + 1; omega)).trans (hf 0), (h.frozen (p := ⟨B, 1, none⟩) (by show B < B + 1; omega)).trans (hf 1), (h.frozen (p := ⟨B, 2, none⟩) (by show B < B + 1; omega)).trans (hf 2)⟩

theorem new_cells2 (w : World) (o : Obj) (e : TypeId) (l : List Value) : ∀ (j : Nat) (u : Value), l[j]? = some u → ((w.alloc o).alloc (Obj.cells l.toArray e)).cell? ((⟨w.heap.size + 1, 0, none⟩ : Addr).add j) = some u := by
  have h := new_cells (w.alloc o) e l
  rw [size_alloc] at h
  exact h

theorem infoRWord : (Tryd.prog.info? 57).map (fun i => (i.zero, i.size, i.bytes)) = some (some (.agg #[.int .i64 0, .int .i64 0, .string ⟨#[]⟩]), 3, 32) := by kernel_rfl

set_option maxRecDepth 20000 in
set_option maxHeartbeats 4000000 in
theorem rsplit_any (s : ByteArray) (w : World) (hs : s.size ≤ 60000) :
    Calls Tryd.prog 7 #[.string s] w (RSplitPost w (WP.split s.data.toList)) := by
  have HX0 : Hid (WP.split s.data.toList = WP.spl (s.size + 1) 0 s.data.toList) := by show _ = _; rw [Lib.size_eq]; unfold WP.spl; rw [Nat.zero_add]; rfl
  obtain ⟨X, hX⟩ : ∃ X, WP.split s.data.toList = X := ⟨_, rfl⟩
  rw [hX] at HX0 ⊢
  clear hX
  go_enter Tryd.func7, Tryd.ntmps7
  go_wp2
  obtain ⟨B, hB⟩ : ∃ B, w.heap.size = B := ⟨_, rfl⟩
  have HB := hid'' hB
  rw [hB]
  have hzz : (w.alloc (.cells #[.int .i64 0, .bool false, .int .i64 0] 36)).heap.size = B + 1 := by rw [size_alloc, hB]
  have HC : Hid (∀ j, (w.alloc (.cells #[.int .i64 0, .bool false, .int .i64 0] 36)).cell? ⟨B, j, none⟩ = (#[.int .i64 0, .bool false, .int .i64 0] : Array Value)[j]?) := fun j => by rw [← hB]; exact cell_new w _ _ _ j
  have HF : Hid (∀ j, (w.alloc (.cells #[.int .i64 0, .bool false, .int .i64 0] 36)).frozen? ⟨B, j, none⟩ = false) := fun j => by rw [← hB]; exact (blk_new w 36 #[.int .i64 0, .bool false, .int .i64 0]).frozen j
  have HBW : Hid (Below w.heap.size w (w.alloc (.cells #[.int .i64 0, .bool false, .int .i64 0] 36))) := (Below.refl _ _).alloc (Nat.le_refl _) _
  generalize (w.alloc (.cells #[.int .i64 0, .bool false, .int .i64 0] 36)) = W0 at HC HF HBW hzz ⊢
  clear hB
  go_loopw [4, 5] (fun v i wr => ∃ (k : Nat) (ad' : Option Addr) (cap' : Nat) (acc : List WP.W), k ≤ s.size ∧ i = .int .i64 k ∧ v = .slice ad' acc.length cap' ∧ acc.length ≤ k ∧ Hid (Own wr (B + 1) 57 3 wcells ad' cap' acc) ∧ Hid (Below (B + 1) W0 wr) ∧ B + 1 ≤ wr.heap.size ∧ Hid (X = WP.pre acc (WP.spl (s.size + 1) k (s.data.toList.drop k)))) (fun _ i _ => s.size - (intOf i).toNat)
  case atStart => exact ⟨0, none, 0, [], Nat.zero_le _, rfl, rfl, Nat.zero_le _, own_nil _ _ _ _ _, Below.refl _ _, Nat.le_of_eq hzz.symm, by rw [WP.pre_nil, List.drop_zero]; exact HX0⟩
  case round =>
    clear HX0
    obtain ⟨k, ad', cap', acc, hk, rfl, rfl, hak, HO, HBr, hBz, HX⟩ := hrel
    cases hl : s.data.toList.drop k with
    | nil =>
      have h0 := drop_nil s k hl
      have hks : ¬ ((k : Int) < (s.size : Int)) := by omega
      have HX2 : Hid (X = .ok acc) := by show _ = _; rw [HX.out, hl, WP.spl_nil]; simp [WP.pre]
      clear HX hl h0
      go_wp2_with (go_at_call 23; refine (none_any _).mono ?_; rintro e w1 ⟨rfl, hb1⟩
                   have HB1 : Hid (Below (B + 1) W0 w1) := HBr.out.trans (hb1.mono hBz)
                   have HO1 : Hid (Own w1 (B + 1) 57 3 wcells ad' cap' acc) := HO.out.below hb1 (Nat.le_refl _)
                   obtain ⟨r0, r1, r2, z0, z1, z2⟩ := box3 HB1.out HC.out HF.out
                   have hz1 : B < w1.heap.size := by { have := hb1.size; omega }
                   clear hb1)
      refine bodyPost_ret (v := .tuple #[.slice ad' acc.length cap', .agg #[.int .i64 0, .bool false, .int .i64 0]]) (by simp [results, Tryd.results7, go_sem, r0, r1, r2]) rfl ?_
      rw [HX2.out]
      have hbw : Below w.heap.size w w1 := HBW.out.trans (HB1.out.mono (by rw [HB.out]; omega))
      have hwb : w.heap.size ≤ B := Nat.le_of_eq HB.out
      exact ⟨((hbw.setCell hwb _).setCell hwb _).setCell hwb _, ad', cap', B + 1, by omega, rfl, ((HO1.out.setLow (by show B < B + 1; omega) _).setLow (by show B < B + 1; omega) _).setLow (by show B < B + 1; omega) _⟩
    | cons c t =>
      obtain ⟨hlt, hc, ht⟩ := at_drop s k c t hl
      have hki : (k : Int) < (s.size : Int) := by omega
      by_cases hv : c.toNat = 32
      · have HX2 : Hid (X = WP.pre acc (WP.spl (s.size + 1) (k + 1) (s.data.toList.drop (k + 1)))) := by show _ = _; rw [HX.out, hl, WP.spl_blank _ _ c t (by unfold WP.blank; simp [hv]), ht]
        have e32 : ((c.toNat : Int) == 32) = true := by rw [hv]; rfl
        have e9 : ((c.toNat : Int) == 9) = false := by rw [hv]; rfl
        have e10 : ((c.toNat : Int) == 10) = false := by rw [hv]; rfl
        have e13 : ((c.toNat : Int) == 13) = false := by rw [hv]; rfl
        clear HX hl ht hv
        go_wp2
        go_roundw
        case rel => exact ⟨k + 1, ad', cap', acc, by omega, by go_num, rfl, by omega, HO, HBr, hBz, HX2⟩
        case measure => simp [intOf]; omega
      have n32 := hv
      clear hv
      by_cases hv : c.toNat = 9
      · have HX2 : Hid (X = WP.pre acc (WP.spl (s.size + 1) (k + 1) (s.data.toList.drop (k + 1)))) := by show _ = _; rw [HX.out, hl, WP.spl_blank _ _ c t (by unfold WP.blank; simp [hv]), ht]
        have e32 : ((c.toNat : Int) == 32) = false := by rw [hv]; rfl
        have e9 : ((c.toNat : Int) == 9) = true := by rw [hv]; rfl
        have e10 : ((c.toNat : Int) == 10) = false := by rw [hv]; rfl
        have e13 : ((c.toNat : Int) == 13) = false := by rw [hv]; rfl
        clear HX hl ht hv
        go_wp2
        go_roundw
        case rel => exact ⟨k + 1, ad', cap', acc, by omega, by go_num, rfl, by omega, HO, HBr, hBz, HX2⟩
        case measure => simp [intOf]; omega
      have n9 := hv
      clear hv
      by_cases hv : c.toNat = 10
      · have HX2 : Hid (X = WP.pre acc (WP.spl (s.size + 1) (k + 1) (s.data.toList.drop (k + 1)))) := by show _ = _; rw [HX.out, hl, WP.spl_blank _ _ c t (by unfold WP.blank; simp [hv]), ht]
        have e32 : ((c.toNat : Int) == 32) = false := by rw [hv]; rfl
        have e9 : ((c.toNat : Int) == 9) = false := by rw [hv]; rfl
        have e10 : ((c.toNat : Int) == 10) = true := by rw [hv]; rfl
        have e13 : ((c.toNat : Int) == 13) = false := by rw [hv]; rfl
        clear HX hl ht hv
        go_wp2
        go_roundw
        case rel => exact ⟨k + 1, ad', cap', acc, by omega, by go_num, rfl, by omega, HO, HBr, hBz, HX2⟩
        case measure => simp [intOf]; omega
      have n10 := hv
      clear hv
      by_cases hv : c.toNat = 13
      · have HX2 : Hid (X = WP.pre acc (WP.spl (s.size + 1) (k + 1) (s.data.toList.drop (k + 1)))) := by show _ = _; rw [HX.out, hl, WP.spl_blank _ _ c t (by unfold WP.blank; simp [hv]), ht]
        have e32 : ((c.toNat : Int) == 32) = false := by rw [hv]; rfl
        have e9 : ((c.toNat : Int) == 9) = false := by rw [hv]; rfl
        have e10 : ((c.toNat : Int) == 10) = false := by rw [hv]; rfl
        have e13 : ((c.toNat : Int) == 13) = true := by rw [hv]; rfl
        clear HX hl ht hv
        go_wp2
        go_roundw
        case rel => exact ⟨k + 1, ad', cap', acc, by omega, by go_num, rfl, by omega, HO, HBr, hBz, HX2⟩
        case measure => simp [intOf]; omega
      have n13 := hv
      clear hv
      have hbl : WP.blank c = false := by unfold WP.blank; simp [n32, n9, n10, n13]
      have e32 : ((c.toNat : Int) == 32) = false := by simp; omega
      have e9 : ((c.toNat : Int) == 9) = false := by simp; omega
      have e10 : ((c.toNat : Int) == 10) = false := by simp; omega
      have e13 : ((c.toNat : Int) == 13) = false := by simp; omega
      clear n32 n9 n10 n13
      by_cases h47 : c.toNat = 47
      · have hc47 : c = 47 := UInt8.toNat_inj.1 h47
        have e47 : ((c.toNat : Int) == 47) = true := by rw [h47]; rfl
        cases hl1 : s.data.toList.drop (k + 1) with
        | nil =>
          have h0 := drop_nil s (k + 1) hl1
          have hn1 : ¬ ((k : Int) + 1 < (s.size : Int)) := by omega
          have hpx : Lib.hasPrefix (c :: t) [47, 47] = false := by
            rw [← ht, hl1]; simp [Lib.hasPrefix, List.isPrefixOf]
          clear h0 h47 hc47 hl1
          have kw := hid'' (fun W => rword_any s k W hlt (by omega))
          rw [hl] at kw
          unfold RWPost WP.wd at kw
          have hfl := WP.first_le (c :: t)
          rw [← hl, List.length_drop, ← Lib.size_eq, hl] at hfl
          have HX1 : Hid (X = WP.pre acc (if (WP.first (c :: t)).2 = 0 then .error k else WP.pre [((WP.first (c :: t)).1, k, (c :: t).take (WP.first (c :: t)).2)] (WP.spl s.size (k + (WP.first (c :: t)).2) ((c :: t).drop (WP.first (c :: t)).2)))) := by show _ = _; rw [HX.out, hl, WP.spl_word _ _ c t hbl hpx]
          have hfk := WP.first_kind (c :: t)
          have htl := WP.first_le (c :: t)
          have HTK : Hid (((c :: t).take (WP.first (c :: t)).2).length = (WP.first (c :: t)).2) := by show _ = _; rw [List.length_take]; omega
          have HDR : Hid ((c :: t).drop (WP.first (c :: t)).2 = s.data.toList.drop (k + (WP.first (c :: t)).2)) := by show _ = _; rw [← hl, List.drop_drop]
          rw [HDR.out] at HX1
          obtain ⟨F, hF⟩ : ∃ F, WP.first (c :: t) = F := ⟨_, rfl⟩
          rw [hF] at kw hfl HX1 hfk HTK
          obtain ⟨kd, n⟩ := F
          simp only at kw hfl HX1 hfk HTK
          clear HX hl ht hF htl HDR hbl hpx
          by_cases hn0 : n = 0
          · subst hn0
            have HX2 : Hid (X = .error k) := by show _ = _; rw [HX1.out, if_pos rfl]; rfl
            simp only [if_true] at kw
            clear HX1 HTK hfk
            go_wp2_with (first
              | (go_at_call 22; refine (kw.out _).mono ?_; rintro e w1 ⟨rfl, hb1⟩
                 have HB1 : Hid (Below (B + 1) W0 w1) := HBr.out.trans (hb1.mono hBz)
                 have HO1 : Hid (Own w1 (B + 1) 57 3 wcells ad' cap' acc) := HO.out.below hb1 (Nat.le_refl _)
                 have hz1 : B + 1 ≤ w1.heap.size := by { have := hb1.size; omega }
                 clear hb1)
              | (go_at_call 21; refine (placed_any 101 (k : Int) _ (by decide)).mono ?_; rintro e w2 ⟨rfl, hb2⟩
                 have HB2 : Hid (Below (B + 1) W0 w2) := (HB1.out.alloc hz1 _).trans (hb2.mono (by simp; omega))
                 obtain ⟨r0, r1, r2, z0, z1, z2⟩ := box3 HB2.out HC.out HF.out
                 have hz2 : B < w2.heap.size := by { have := hb2.size; simp at this; omega }
                 clear hb2))
            refine bodyPost_ret (v := .tuple #[.slice none 0 0, .agg #[.int .i64 101, .bool true, .int .i64 (k : Int)]]) (by simp [results, Tryd.results7, go_sem, r0, r1, r2]) rfl ?_
            rw [HX2.out]
            have hbw : Below w.heap.size w w2 := HBW.out.trans (HB2.out.mono (by rw [HB.out]; omega))
            have hwb : w.heap.size ≤ B := Nat.le_of_eq HB.out
            exact ⟨((hbw.setCell hwb _).setCell hwb _).setCell hwb _, rfl⟩
          · have hkd := hfk hn0
            have dk : ((kd : Int) == 0) = false := by simp; omega
            simp only [if_neg hn0] at kw
            obtain ⟨pc, hpc⟩ : ∃ pc, (c :: t).take n = pc := ⟨_, rfl⟩
            rw [hpc] at kw HX1 HTK
            have HX2 : Hid (X = WP.pre (acc ++ [(kd, k, pc)]) (WP.spl (s.size + 1) (k + n) (s.data.toList.drop (k + n)))) := by
              show _ = _
              rw [HX1.out, if_neg hn0, WP.pre_pre, WP.spl_more s.size (s.size + 1) _ _ (by rw [List.length_drop, ← Lib.size_eq]; omega) (by rw [List.length_drop, ← Lib.size_eq]; omega)]
            have hpz : (⟨pc.toArray⟩ : ByteArray).size = n := by rw [size_mk]; exact HTK.out
            clear HX1 hfk hpc
            go_wp2_with (first
              | (go_at_call 22; refine (kw.out _).mono ?_; rintro e w1 ⟨rfl, hb1⟩
                 have HB1 : Hid (Below (B + 1) W0 w1) := HBr.out.trans (hb1.mono hBz)
                 have HO1 : Hid (Own w1 (B + 1) 57 3 wcells ad' cap' acc) := HO.out.below hb1 (Nat.le_refl _)
                 have hz1 : B + 1 ≤ w1.heap.size := by { have := hb1.size; omega }
                 clear hb1)
              | (at_builtin; refine wpList_push _ rfl (.tmp 79) (.tmp 81) 34 rfl (B + 1) 57 _ 3 32 Tryd.underlying34 infoRWord rfl (by decide) wcells w_len acc (kd, k, pc) acc.length rfl rfl ((HO1.out.alloc _).alloc _) (w1.heap.size + 1) rfl (new_cells2 _ _ _ _) (w_one _) (by omega) (by omega) (by simp; omega) ?_
                 intro ad2 cap2 w4 hown2 hg2
                 have HB4 : Hid (Below (B + 1) W0 w4) := below_grown ((HB1.out.alloc hz1 _).alloc (by simp; omega) _) hg2 (by simp; omega) (fun x hx => (HO1.out.lt x hx).1)
                 have hB4 : B + 1 ≤ w4.heap.size := by have := hg2.size; simp at this; omega
                 have HO4 := hid'' hown2
                 have c4 : w4.cell? ⟨w1.heap.size, 2, none⟩ = some (.string ⟨pc.toArray⟩) := (grown_cell (j := 2) hg2 (by simp; omega) (fun x hx => by have := (HO1.out.lt x hx).2; omega)).1.trans (World.cell?_of_block (Below.heap_alloc _ _ _ (by simp)) |>.trans (by rw [cell_new]; rfl))
                 have hb4 : w1.heap.size < w4.heap.size := by have := hg2.size; simp at this; omega
                 clear hown2 hg2))
            go_roundw
            case rel => exact ⟨k + n, ad2, cap2, acc ++ [(kd, k, pc)], by omega, by go_num, by simp, by simp; omega, HO4, HB4, hB4, HX2⟩
            case measure => simp [intOf]; omega
        | cons c2 t2 =>
          obtain ⟨hlt2, hc2, -⟩ := at_drop s (k + 1) c2 t2 hl1
          have hn1 : (k : Int) + 1 < (s.size : Int) := by omega
          by_cases h472 : c2.toNat = 47
          · have hpx : Lib.hasPrefix (c :: t) [47, 47] = true := by
              have : c2 = 47 := UInt8.toNat_inj.1 h472
              rw [← ht, hl1, hc47, this]; simp [Lib.hasPrefix, List.isPrefixOf]
            have e472 : ((c2.toNat : Int) == 47) = true := by rw [h472]; rfl
            obtain ⟨hL1, hL2⟩ := WP.gap_remark (c :: t) hpx
            obtain ⟨L, hL⟩ : ∃ L, WP.line (c :: t) = L := ⟨_, rfl⟩
            have hLl := WP.line_le (c :: t)
            rw [← hl, List.length_drop, ← Lib.size_eq, hl, hL] at hLl
            have HX2 : Hid (X = WP.pre acc (WP.spl (s.size + 1) (k + L) (s.data.toList.drop (k + L)))) := by show _ = _; rw [HX.out, hl, WP.spl_remark _ _ _ hpx, hL, ← hl, List.drop_drop]
            have HL0 : Hid (WP.line (s.data.toList.drop k) = L) := by show _ = _; rw [hl]; exact hL
            rw [hL] at hL2
            clear HX hl ht hL1 hpx hL h47 hc47 hl1 h472 hbl
            go_wp2
            go_loop [5] (fun i => ∃ m : Nat, i = .int .i64 ((k + m : Nat) : Int) ∧ k + m ≤ s.size ∧ Hid (L = m + WP.line (s.data.toList.drop (k + m)))) (fun i => s.size - (intOf i).toNat)
            case atStart => exact ⟨0, rfl, by omega, by rw [Nat.add_zero, Nat.zero_add]; exact HL0.out.symm⟩
            case round =>
              obtain ⟨m, rfl, hm, HM0⟩ := hrel
              obtain ⟨kk, hkk⟩ : ∃ kk, k + m = kk := ⟨_, rfl⟩
              rw [hkk] at hm HM0 ⊢
              have HK := hid'' hkk
              cases hl3 : s.data.toList.drop kk with
              | nil =>
                have h0 := drop_nil s kk hl3
                have hks : ¬ ((kk : Int) < (s.size : Int)) := by omega
                have HM : Hid (L = m) := by show _ = _; rw [HM0.out, hl3]; rfl
                clear hl3 h0 HM0
                go_wp2
                go_roundw
                case rel => exact ⟨k + L, ad', cap', acc, by omega, by rw [HM.out, HK.out], rfl, by omega, HO, HBr, hBz, HX2⟩
                case measure => have := HM.out; simp [intOf]; omega
              | cons c3 t3 =>
                obtain ⟨hlt3, hc3, -⟩ := at_drop s kk c3 t3 hl3
                have hks : (kk : Int) < (s.size : Int) := by omega
                by_cases h10 : c3.toNat = 10
                · have e10' : ((c3.toNat : Int) == 10) = true := by rw [h10]; rfl
                  have f10 : (c3.toNat : Int) = 10 := by omega
                  have HM : Hid (L = m) := by show _ = _; rw [HM0.out, hl3]; simp [WP.line, h10]
                  clear hl3 HM0 h10
                  go_wp2
                  go_roundw
                  case rel => exact ⟨k + L, ad', cap', acc, by omega, by rw [HM.out, HK.out], rfl, by omega, HO, HBr, hBz, HX2⟩
                  case measure => have := HM.out; simp [intOf]; omega
                · have e10' : ((c3.toNat : Int) == 10) = false := by simp; omega
                  have f10 : ¬ ((c3.toNat : Int) = 10) := by omega
                  have HM : Hid (L = m + 1 + WP.line (s.data.toList.drop (kk + 1))) := by
                    show _ = _
                    have : s.data.toList.drop (kk + 1) = t3 := (at_drop s kk c3 t3 hl3).2.2
                    rw [HM0.out, hl3, this]
                    simp only [WP.line, if_neg h10]
                    omega
                  clear hl3 HM0 h10
                  go_wp2
                  go_round
                  case rel => exact ⟨m + 1, by rw [← HK.out]; go_num, by omega, by rw [← Nat.add_assoc, HK.out]; exact HM⟩
                  case measure => simp [intOf]; omega
          · have hpx : Lib.hasPrefix (c :: t) [47, 47] = false := by
              have : ((47 : UInt8) == c2) = false := by simp; intro e; exact h472 (by rw [← e]; rfl)
              rw [← ht, hl1]; simp [Lib.hasPrefix, List.isPrefixOf, this]
            have e472 : ((c2.toNat : Int) == 47) = false := by simp; omega
            clear h472 h47 hc47 hl1
            have kw := hid'' (fun W => rword_any s k W hlt (by omega))
            rw [hl] at kw
            unfold RWPost WP.wd at kw
            have hfl := WP.first_le (c :: t)
            rw [← hl, List.length_drop, ← Lib.size_eq, hl] at hfl
            have HX1 : Hid (X = WP.pre acc (if (WP.first (c :: t)).2 = 0 then .error k else WP.pre [((WP.first (c :: t)).1, k, (c :: t).take (WP.first (c :: t)).2)] (WP.spl s.size (k + (WP.first (c :: t)).2) ((c :: t).drop (WP.first (c :: t)).2)))) := by show _ = _; rw [HX.out, hl, WP.spl_word _ _ c t hbl hpx]
            have hfk := WP.first_kind (c :: t)
            have htl := WP.first_le (c :: t)
            have HTK : Hid (((c :: t).take (WP.first (c :: t)).2).length = (WP.first (c :: t)).2) := by show _ = _; rw [List.length_take]; omega
            have HDR : Hid ((c :: t).drop (WP.first (c :: t)).2 = s.data.toList.drop (k + (WP.first (c :: t)).2)) := by show _ = _; rw [← hl, List.drop_drop]
            rw [HDR.out] at HX1
            obtain ⟨F, hF⟩ : ∃ F, WP.first (c :: t) = F := ⟨_, rfl⟩
            rw [hF] at kw hfl HX1 hfk HTK
            obtain ⟨kd, n⟩ := F
            simp only at kw hfl HX1 hfk HTK
            clear HX hl ht hF htl HDR hbl hpx
            by_cases hn0 : n = 0
            · subst hn0
              have HX2 : Hid (X = .error k) := by show _ = _; rw [HX1.out, if_pos rfl]; rfl
              simp only [if_true] at kw
              clear HX1 HTK hfk
              go_wp2_with (first
                | (go_at_call 22; refine (kw.out _).mono ?_; rintro e w1 ⟨rfl, hb1⟩
                   have HB1 : Hid (Below (B + 1) W0 w1) := HBr.out.trans (hb1.mono hBz)
                   have HO1 : Hid (Own w1 (B + 1) 57 3 wcells ad' cap' acc) := HO.out.below hb1 (Nat.le_refl _)
                   have hz1 : B + 1 ≤ w1.heap.size := by { have := hb1.size; omega }
                   clear hb1)
                | (go_at_call 21; refine (placed_any 101 (k : Int) _ (by decide)).mono ?_; rintro e w2 ⟨rfl, hb2⟩
                   have HB2 : Hid (Below (B + 1) W0 w2) := (HB1.out.alloc hz1 _).trans (hb2.mono (by simp; omega))
                   obtain ⟨r0, r1, r2, z0, z1, z2⟩ := box3 HB2.out HC.out HF.out
                   have hz2 : B < w2.heap.size := by { have := hb2.size; simp at this; omega }
                   clear hb2))
              refine bodyPost_ret (v := .tuple #[.slice none 0 0, .agg #[.int .i64 101, .bool true, .int .i64 (k : Int)]]) (by simp [results, Tryd.results7, go_sem, r0, r1, r2]) rfl ?_
              rw [HX2.out]
              have hbw : Below w.heap.size w w2 := HBW.out.trans (HB2.out.mono (by rw [HB.out]; omega))
              have hwb : w.heap.size ≤ B := Nat.le_of_eq HB.out
              exact ⟨((hbw.setCell hwb _).setCell hwb _).setCell hwb _, rfl⟩
            · have hkd := hfk hn0
              have dk : ((kd : Int) == 0) = false := by simp; omega
              simp only [if_neg hn0] at kw
              obtain ⟨pc, hpc⟩ : ∃ pc, (c :: t).take n = pc := ⟨_, rfl⟩
              rw [hpc] at kw HX1 HTK
              have HX2 : Hid (X = WP.pre (acc ++ [(kd, k, pc)]) (WP.spl (s.size + 1) (k + n) (s.data.toList.drop (k + n)))) := by
                show _ = _
                rw [HX1.out, if_neg hn0, WP.pre_pre, WP.spl_more s.size (s.size + 1) _ _ (by rw [List.length_drop, ← Lib.size_eq]; omega) (by rw [List.length_drop, ← Lib.size_eq]; omega)]
              have hpz : (⟨pc.toArray⟩ : ByteArray).size = n := by rw [size_mk]; exact HTK.out
              clear HX1 hfk hpc
              go_wp2_with (first
                | (go_at_call 22; refine (kw.out _).mono ?_; rintro e w1 ⟨rfl, hb1⟩
                   have HB1 : Hid (Below (B + 1) W0 w1) := HBr.out.trans (hb1.mono hBz)
                   have HO1 : Hid (Own w1 (B + 1) 57 3 wcells ad' cap' acc) := HO.out.below hb1 (Nat.le_refl _)
                   have hz1 : B + 1 ≤ w1.heap.size := by { have := hb1.size; omega }
                   clear hb1)
                | (at_builtin; refine wpList_push _ rfl (.tmp 79) (.tmp 81) 34 rfl (B + 1) 57 _ 3 32 Tryd.underlying34 infoRWord rfl (by decide) wcells w_len acc (kd, k, pc) acc.length rfl rfl ((HO1.out.alloc _).alloc _) (w1.heap.size + 1) rfl (new_cells2 _ _ _ _) (w_one _) (by omega) (by omega) (by simp; omega) ?_
                   intro ad2 cap2 w4 hown2 hg2
                   have HB4 : Hid (Below (B + 1) W0 w4) := below_grown ((HB1.out.alloc hz1 _).alloc (by simp; omega) _) hg2 (by simp; omega) (fun x hx => (HO1.out.lt x hx).1)
                   have hB4 : B + 1 ≤ w4.heap.size := by have := hg2.size; simp at this; omega
                   have HO4 := hid'' hown2
                   have c4 : w4.cell? ⟨w1.heap.size, 2, none⟩ = some (.string ⟨pc.toArray⟩) := (grown_cell (j := 2) hg2 (by simp; omega) (fun x hx => by have := (HO1.out.lt x hx).2; omega)).1.trans (World.cell?_of_block (Below.heap_alloc _ _ _ (by simp)) |>.trans (by rw [cell_new]; rfl))
                   have hb4 : w1.heap.size < w4.heap.size := by have := hg2.size; simp at this; omega
                   clear hown2 hg2))
              go_roundw
              case rel => exact ⟨k + n, ad2, cap2, acc ++ [(kd, k, pc)], by omega, by go_num, by simp, by simp; omega, HO4, HB4, hB4, HX2⟩
              case measure => simp [intOf]; omega
      · have e47 : ((c.toNat : Int) == 47) = false := by simp; omega
        have hpx : Lib.hasPrefix (c :: t) [47, 47] = false := by
          have : ((47 : UInt8) == c) = false := by simp; intro e; exact h47 (by rw [← e]; rfl)
          simp [Lib.hasPrefix, List.isPrefixOf, this]
        clear h47
        have kw := hid'' (fun W => rword_any s k W hlt (by omega))
        rw [hl] at kw
        unfold RWPost WP.wd at kw
        have hfl := WP.first_le (c :: t)
        rw [← hl, List.length_drop, ← Lib.size_eq, hl] at hfl
        have HX1 : Hid (X = WP.pre acc (if (WP.first (c :: t)).2 = 0 then .error k else WP.pre [((WP.first (c :: t)).1, k, (c :: t).take (WP.first (c :: t)).2)] (WP.spl s.size (k + (WP.first (c :: t)).2) ((c :: t).drop (WP.first (c :: t)).2)))) := by show _ = _; rw [HX.out, hl, WP.spl_word _ _ c t hbl hpx]
        have hfk := WP.first_kind (c :: t)
        have htl := WP.first_le (c :: t)
        have HTK : Hid (((c :: t).take (WP.first (c :: t)).2).length = (WP.first (c :: t)).2) := by show _ = _; rw [List.length_take]; omega
        have HDR : Hid ((c :: t).drop (WP.first (c :: t)).2 = s.data.toList.drop (k + (WP.first (c :: t)).2)) := by show _ = _; rw [← hl, List.drop_drop]
        rw [HDR.out] at HX1
        obtain ⟨F, hF⟩ : ∃ F, WP.first (c :: t) = F := ⟨_, rfl⟩
        rw [hF] at kw hfl HX1 hfk HTK
        obtain ⟨kd, n⟩ := F
        simp only at kw hfl HX1 hfk HTK
        clear HX hl ht hF htl HDR hbl hpx
        by_cases hn0 : n = 0
        · subst hn0
          have HX2 : Hid (X = .error k) := by show _ = _; rw [HX1.out, if_pos rfl]; rfl
          simp only [if_true] at kw
          clear HX1 HTK hfk
          go_wp2_with (first
            | (go_at_call 22; refine (kw.out _).mono ?_; rintro e w1 ⟨rfl, hb1⟩
               have HB1 : Hid (Below (B + 1) W0 w1) := HBr.out.trans (hb1.mono hBz)
               have HO1 : Hid (Own w1 (B + 1) 57 3 wcells ad' cap' acc) := HO.out.below hb1 (Nat.le_refl _)
               have hz1 : B + 1 ≤ w1.heap.size := by { have := hb1.size; omega }
               clear hb1)
            | (go_at_call 21; refine (placed_any 101 (k : Int) _ (by decide)).mono ?_; rintro e w2 ⟨rfl, hb2⟩
               have HB2 : Hid (Below (B + 1) W0 w2) := (HB1.out.alloc hz1 _).trans (hb2.mono (by simp; omega))
               obtain ⟨r0, r1, r2, z0, z1, z2⟩ := box3 HB2.out HC.out HF.out
               have hz2 : B < w2.heap.size := by { have := hb2.size; simp at this; omega }
               clear hb2))
          refine bodyPost_ret (v := .tuple #[.slice none 0 0, .agg #[.int .i64 101, .bool true, .int .i64 (k : Int)]]) (by simp [results, Tryd.results7, go_sem, r0, r1, r2]) rfl ?_
          rw [HX2.out]
          have hbw : Below w.heap.size w w2 := HBW.out.trans (HB2.out.mono (by rw [HB.out]; omega))
          have hwb : w.heap.size ≤ B := Nat.le_of_eq HB.out
          exact ⟨((hbw.setCell hwb _).setCell hwb _).setCell hwb _, rfl⟩
        · have hkd := hfk hn0
          have dk : ((kd : Int) == 0) = false := by simp; omega
          simp only [if_neg hn0] at kw
          obtain ⟨pc, hpc⟩ : ∃ pc, (c :: t).take n = pc := ⟨_, rfl⟩
          rw [hpc] at kw HX1 HTK
          have HX2 : Hid (X = WP.pre (acc ++ [(kd, k, pc)]) (WP.spl (s.size + 1) (k + n) (s.data.toList.drop (k + n)))) := by
            show _ = _
            rw [HX1.out, if_neg hn0, WP.pre_pre, WP.spl_more s.size (s.size + 1) _ _ (by rw [List.length_drop, ← Lib.size_eq]; omega) (by rw [List.length_drop, ← Lib.size_eq]; omega)]
          have hpz : (⟨pc.toArray⟩ : ByteArray).size = n := by rw [size_mk]; exact HTK.out
          clear HX1 hfk hpc
          go_wp2_with (first
            | (go_at_call 22; refine (kw.out _).mono ?_; rintro e w1 ⟨rfl, hb1⟩
               have HB1 : Hid (Below (B + 1) W0 w1) := HBr.out.trans (hb1.mono hBz)
               have HO1 : Hid (Own w1 (B + 1) 57 3 wcells ad' cap' acc) := HO.out.below hb1 (Nat.le_refl _)
               have hz1 : B + 1 ≤ w1.heap.size := by { have := hb1.size; omega }
               clear hb1)
            | (at_builtin; refine wpList_push _ rfl (.tmp 79) (.tmp 81) 34 rfl (B + 1) 57 _ 3 32 Tryd.underlying34 infoRWord rfl (by decide) wcells w_len acc (kd, k, pc) acc.length rfl rfl ((HO1.out.alloc _).alloc _) (w1.heap.size + 1) rfl (new_cells2 _ _ _ _) (w_one _) (by omega) (by omega) (by simp; omega) ?_
               intro ad2 cap2 w4 hown2 hg2
               have HB4 : Hid (Below (B + 1) W0 w4) := below_grown ((HB1.out.alloc hz1 _).alloc (by simp; omega) _) hg2 (by simp; omega) (fun x hx => (HO1.out.lt x hx).1)
               have hB4 : B + 1 ≤ w4.heap.size := by have := hg2.size; simp at this; omega
               have HO4 := hid'' hown2
               have c4 : w4.cell? ⟨w1.heap.size, 2, none⟩ = some (.string ⟨pc.toArray⟩) := (grown_cell (j := 2) hg2 (by simp; omega) (fun x hx => by have := (HO1.out.lt x hx).2; omega)).1.trans (World.cell?_of_block (Below.heap_alloc _ _ _ (by simp)) |>.trans (by rw [cell_new]; rfl))
               have hb4 : w1.heap.size < w4.heap.size := by have := hg2.size; simp at this; omega
               clear hown2 hg2))
          go_roundw
          case rel => exact ⟨k + n, ad2, cap2, acc ++ [(kd, k, pc)], by omega, by go_num, by simp, by simp; omega, HO4, HB4, hB4, HX2⟩
          case measure => simp [intOf]; omega

end Go.Proofs.YtbniikaebkmbhaaDoor

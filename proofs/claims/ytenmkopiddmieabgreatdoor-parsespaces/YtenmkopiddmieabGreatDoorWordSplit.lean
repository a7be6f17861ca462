/-
  The words of a text, or the first place where none can be read: walked over the program.
-/
import Derived.Test.YtenmkopiddmieabGreatDoorJB
namespace Go.Proofs.YtenmkopiddmieabGreatDoor
open Go.RowKit

def wcells (x : WP.W) : List Value := [.int .i64 (x.1 : Nat), .int .i64 (x.2.1 : Nat), .string ⟨x.2.2.toArray⟩]
theorem w_len (x : WP.W) : (wcells x).length = 3 := rfl
theorem w_one (x : WP.W) : ∀ u ∈ wcells x, u.oneCell' = true := by
  intro u hu; simp [wcells] at hu; rcases hu with rfl | rfl | rfl <;> rfl
theorem infoWord : (Tryz.prog.info? 83).map (fun i => (i.zero, i.size, i.bytes)) = some (some (.agg #[.int .i64 0, .int .i64 0, .string ⟨#[]⟩]), 3, 32) := by kernel_rfl

theorem clone_any (s : ByteArray) (w : World) (hlim : s.size ≤ 281474976710656) :
    Calls Tryz.prog 25 #[.string s] w fun e w' => e = .returned (.string s) ∧ Below w.heap.size w w' := by
  have k1 := hid'' (Tryz.stringslite_Clone s w hlim)
  go_enter Tryz.func25, Tryz.ntmps25
  go_wp2_with (go_at_call 46; refine k1.out.mono ?_; rintro e w1 ⟨rfl, hb⟩)
  go_ret
  exact ⟨rfl, hb⟩

/-- The variable of the error for a wrong text. -/
def ErrT (w : World) (ea : Addr) : Prop := w.cell? ⟨1, 0, none⟩ = some (.iface 167 (.pointer (some ea))) ∧ 1 < w.heap.size

theorem ErrT.below {w w' : World} {ea : Addr} (h : ErrT w ea) (hb : Below w.heap.size w w') : ErrT w' ea := ⟨(hb.cell (p := ⟨1, 0, none⟩) h.2).trans h.1, Nat.lt_of_lt_of_le h.2 hb.size⟩

def SplitPost (w : World) (ea : Addr) (r : Except Nat (List WP.W)) (e : Ending) (w' : World) : Prop :=
  Below w.heap.size w w' ∧ match r with
  | .ok ws => ∃ ad cap, e = .returned (.tuple #[.slice ad ws.length cap, .nilIface]) ∧ Own w' w.heap.size 83 3 wcells ad cap ws
  | .error n => ∃ g, w.heap.size ≤ g ∧ e = .returned (.tuple #[.slice none 0 0, .iface 75 (.pointer (some ⟨g, 0, none⟩))]) ∧ w'.heap[g]? = some (.cells #[.int .i64 (n : Nat), .iface 167 (.pointer (some ea))] 77 (0, 0))

set_option maxRecDepth 20000 in
set_option maxHeartbeats 1000000 in
theorem split_any (s : ByteArray) (ea : Addr) (w : World) (hs : s.size ≤ 60000) (hE : ErrT w ea) :
    Calls Tryz.prog 14 #[.string s] w (SplitPost w ea (WP.split s.data.toList)) := by
  have hg := WP.gap_le s.data.toList
  rw [← Lib.size_eq] at hg
  have kg := hid'' (gap_any s w (by omega))
  obtain ⟨G, hG⟩ : ∃ G, WP.gap s.data.toList = G := ⟨_, rfl⟩
  rw [hG] at kg hg
  have HR : Hid (WP.split s.data.toList = WP.go (s.size + 1) G (s.data.toList.drop G)) := by show _ = _; rw [← hG, Lib.size_eq]; rfl
  obtain ⟨R, hR⟩ : ∃ R, WP.split s.data.toList = R := ⟨_, rfl⟩
  rw [hR] at HR ⊢
  have HE := hid'' hE
  clear hG hR hE
  go_enter Tryz.func14, Tryz.ntmps14
  go_wp2_with (go_at_call 23; refine kg.out.mono ?_; rintro e w1 ⟨rfl, hw1⟩; subst w1)
  obtain ⟨B, hB⟩ : ∃ B, w.heap.size = B := ⟨_, rfl⟩
  have HB0 : Hid (w.heap.size = B) := hB
  clear kg hB
  rename World => w
  go_loopw [4, 5] (fun v i wr => ∃ (k : Nat) (ad' : Option Addr) (cap' : Nat) (acc : List WP.W), k ≤ s.size ∧ i = .int .i64 k ∧ v = .slice ad' acc.length cap' ∧ acc.length ≤ k ∧ Hid (Own wr B 83 3 wcells ad' cap' acc) ∧ Hid (Below B w wr) ∧ B ≤ wr.heap.size ∧ Hid (R = WP.pre acc (WP.go (s.size + 1) k (s.data.toList.drop k)))) (fun _ i _ => s.size - (intOf i).toNat)
  case atStart => exact ⟨G, none, 0, [], hg, rfl, rfl, Nat.zero_le _, own_nil _ _ _ _ _, Below.refl _ _, Nat.le_of_eq HB0.out.symm, by rw [WP.pre_nil]; exact HR⟩
  case round =>
    clear HR hg
    obtain ⟨k, ad', cap', acc, hk, rfl, rfl, hak, HO, HB, hBr, HR⟩ := hrel
    cases hl : s.data.toList.drop k with
    | nil =>
      have h0 := drop_nil s k hl
      have hks : k = s.size := by omega
      have HX : Hid (R = .ok acc) := by show _ = _; rw [HR.out, hl]; simp [WP.go, WP.pre]
      clear HR hl
      subst hks
      go_wp2
      refine bodyPost_ret (v := .tuple #[.slice ad' acc.length cap', .nilIface]) (by simp [results, Tryz.results14, go_sem]) rfl ?_
      rw [HX.out]
      exact ⟨by rw [HB0.out]; exact HB.out, ad', cap', rfl, by rw [HB0.out]; exact HO.out⟩
    | cons c t =>
      obtain ⟨hlt, -, -⟩ := at_drop s k c t hl
      have kf := hid'' (fun W => first_any (s.extract k s.size) W (by rw [tail_size]; omega))
      rw [tail_data] at kf
      have hfl := WP.first_le (s.data.toList.drop k)
      rw [List.length_drop, ← Lib.size_eq] at hfl
      have hne : s.data.toList.drop k ≠ [] := by rw [hl]; simp
      have HG1 : Hid (WP.go (s.size + 1) k (s.data.toList.drop k) = if (WP.first (s.data.toList.drop k)).2 = 0 then .error k else WP.pre [((WP.first (s.data.toList.drop k)).1, k, (s.data.toList.drop k).take (WP.first (s.data.toList.drop k)).2)] (WP.go s.size (k + ((WP.first (s.data.toList.drop k)).2 + WP.gap ((s.data.toList.drop k).drop (WP.first (s.data.toList.drop k)).2))) ((s.data.toList.drop k).drop ((WP.first (s.data.toList.drop k)).2 + WP.gap ((s.data.toList.drop k).drop (WP.first (s.data.toList.drop k)).2))))) := by
        show _ = _
        conv => lhs; unfold WP.go
        rw [if_neg hne]
      obtain ⟨F, hF⟩ : ∃ F, WP.first (s.data.toList.drop k) = F := ⟨_, rfl⟩
      rw [hF] at kf hfl HG1
      obtain ⟨kd, n⟩ := F
      simp only at hfl HG1
      unfold FstPost at kf
      simp only at kf
      clear hl hF hne
      by_cases h0 : n = 0
      · subst h0
        have HX : Hid (R = .error k) := by show _ = _; rw [HR.out, HG1.out, if_pos rfl]; rfl
        have hEr := HE.out.below (w' := wr) (by rw [HB0.out]; exact HB.out)
        obtain ⟨ec, ez⟩ := hEr
        clear HR HG1
        go_wp2_with (go_at_call 24; refine (kf.out _).mono ?_; rintro e w2 ⟨rfl, rfl⟩)
        go_region
        all_goals go_wp2
        all_goals
          refine bodyPost_ret (v := .tuple #[.slice none 0 0, .iface 75 (.pointer (some ⟨w2.heap.size, 0, none⟩))]) (by simp [results, Tryz.results14, go_sem]) rfl ?_
          rw [HX.out]
          have hb2 : Below w.heap.size w ((w2.alloc (.cells #[.int .i64 (k : Nat), .iface 167 (.pointer (some ea))] 77)).drew) := by rw [HB0.out]; exact (HB.out.alloc hBr _).drew
          exact ⟨hb2, w2.heap.size, by rw [HB0.out]; exact hBr, rfl, heap_alloc_new w2 _⟩
      · have d0 : ((n : Int) == 0) = false := by simp; omega
        obtain ⟨pc, hpc⟩ : ∃ pc, (s.data.toList.drop k).take n = pc := ⟨_, rfl⟩
        rw [if_neg h0, List.drop_drop, List.drop_drop, hpc] at HG1
        have kc : Hid (∀ W, Calls Tryz.prog 25 #[.string (s.extract k (k + n))] W fun e w' => e = .returned (.string ⟨pc.toArray⟩) ∧ Below W.heap.size W w') := fun W => by
          have e1 : s.extract k (k + n) = ⟨pc.toArray⟩ := by rw [Lib.extract_eq, Nat.add_sub_cancel_left, hpc]
          rw [e1]
          refine clone_any _ W ?_
          rw [← e1, Lib.size_eq, Lib.extract_data, List.length_take, List.length_drop, ← Lib.size_eq]
          omega
        have kg := hid'' (fun W => gap_any (s.extract (k + n) s.size) W (by rw [tail_size]; omega))
        have hgl := WP.gap_le (s.data.toList.drop (k + n))
        rw [List.length_drop, ← Lib.size_eq] at hgl
        rw [tail_data] at kg
        obtain ⟨g, hg⟩ : ∃ g, WP.gap (s.data.toList.drop (k + n)) = g := ⟨_, rfl⟩
        rw [hg] at kg hgl HG1
        have HX : Hid (R = WP.pre (acc ++ [(kd, k, pc)]) (WP.go (s.size + 1) (k + (n + g)) (s.data.toList.drop (k + (n + g))))) := by
          show _ = _
          rw [HR.out, HG1.out, WP.pre_pre, WP.go_more s.size (s.size + 1) _ _ (by rw [List.length_drop, ← Lib.size_eq]; omega) (by rw [List.length_drop, ← Lib.size_eq]; omega)]
        have hkn : k + n ≤ s.size := by omega
        clear HR HG1 hg hpc
        go_wp2_with (first
          | (go_at_call 24; refine (kf.out _).mono ?_; rintro e w2 ⟨rfl, rfl⟩)
          | (go_at_call 25; refine (kc.out _).mono ?_; rintro e w3 ⟨rfl, hb3⟩
             have HB3 : Hid (Below B w w3) := HB.out.trans (hb3.mono hBr)
             have HO3 : Hid (Own w3 B 83 3 wcells ad' cap' acc) := HO.out.below hb3 (Nat.le_refl _)
             have hB3 : B ≤ w3.heap.size := Nat.le_trans hBr hb3.size
             clear hb3)
          | (at_builtin; refine wpList_push _ rfl (.tmp 41) (.tmp 52) 46 rfl B 83 _ 3 32 Tryz.underlying46 infoWord rfl (by decide) wcells w_len acc (kd, k, pc) acc.length rfl rfl (HO3.out.alloc _) _ rfl (new_cells _ _ _) (w_one _) (by omega) (by omega) (by simp; omega) ?_
             intro ad2 cap2 w4 hown2 hg2
             have HB4 : Hid (Below B w w4) := below_grown (HB3.out.alloc hB3 _) hg2 (by simp; omega) (fun x hx => (HO3.out.lt x hx).1)
             have hB4 : B ≤ w4.heap.size := by have := hg2.size; simp at this; omega
             have HO4 := hid'' hown2
             clear hown2 hg2)
          | (go_at_call 23; refine (kg.out _).mono ?_; rintro e w5 ⟨rfl, rfl⟩))
        go_roundw
        case rel => exact ⟨k + (n + g), ad2, cap2, acc ++ [(kd, k, pc)], by omega, by go_num, by simp, by simp; omega, HO4, HB4, hB4, HX⟩
        case measure => simp [intOf]; omega

end Go.Proofs.YtenmkopiddmieabGreatDoor

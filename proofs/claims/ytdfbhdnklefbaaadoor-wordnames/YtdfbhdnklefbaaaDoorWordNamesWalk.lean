/-
  The road of the statement WordNames, walked over the program.
-/
import Derived.Deep.Cut
import Derived.Deep.CutBlock
import Derived.Test.YtdfbhdnklefbaaaDoorWordErrWalk
namespace Go.Proofs.YtdfbhdnklefbaaaDoor
open Go.RowKit

theorem number_any (n b : Int) (w : World) (hb : 1 ≤ b ∧ b ≤ 4611686018427387904) (hn : -9223372036854775808 ≤ n ∧ n ≤ 9223372036854775807) :
    Calls Tryd.prog 16 #[.int .i64 n, .int .i64 b] w fun e w' => (∃ r : Int, e = .returned (.int .i64 r) ∧ 0 ≤ r ∧ r < b) ∧ w' = w := by
  have t : -b < n.tmod b ∧ n.tmod b < b := by
    rcases Int.le_total 0 n with h | h
    · rw [Int.tmod_eq_emod_of_nonneg h]
      have := Int.emod_nonneg n (b := b) (by omega)
      have := Int.emod_lt_of_pos n (b := b) (by omega)
      omega
    · have e : n.tmod b = -((-n).tmod b) := by rw [Int.neg_tmod]; omega
      rw [e, Int.tmod_eq_emod_of_nonneg (by omega)]
      have := Int.emod_nonneg (-n) (b := b) (by omega)
      have := Int.emod_lt_of_pos (-n) (b := b) (by omega)
      omega
  have h0 : (b == 0) = false := by simp; omega
  have h1 : (b == -1) = false := by simp; omega
  obtain ⟨T, hT⟩ : ∃ T, n.tmod b = T := ⟨_, rfl⟩
  rw [hT] at t
  go_enter Tryd.func16, Tryd.ntmps16
  by_cases hneg : T < 0
  · go_wp2
    go_ret
    exact ⟨⟨_, rfl, by omega, by omega⟩, rfl⟩
  · go_wp2
    go_ret
    exact ⟨⟨_, rfl, by omega, by omega⟩, rfl⟩

def six : List UInt8 := [97, 122, 48, 57, 95, 107]
/-- The name that is made: its first sign, and so many of six. -/
def nmb : Nat → List UInt8
  | 0 => [113]
  | n + 1 => nmb n ++ [six.getD ((n + 1) % 6) 0]

def bcl (c : UInt8) : List Value := [.int .u8 (c.toNat : Int)]
theorem b_len (c : UInt8) : (bcl c).length = 1 := rfl
theorem b_one (c : UInt8) : ∀ u ∈ bcl c, u.oneCell' = true := by
  intro u hu; simp [bcl] at hu; subst hu; rfl
theorem infoB : (Tryd.prog.info? 5).map (fun i => (i.zero, i.size, i.bytes)) = some (some (.int .u8 0), 1, 1) := by kernel_rfl

theorem nmb_len (n : Nat) : (nmb n).length = n + 1 := by
  induction n with
  | zero => rfl
  | succ n ih => rw [nmb, List.length_append, ih]; rfl

namespace WP
def okIs (ws : List W) : Except Nat (List W) → Bool
  | .error _ => false
  | .ok l => decide (l = ws)
theorem okIs_eq {ws : List W} {r : Except Nat (List W)} (h : okIs ws r = true) : r = .ok ws := by
  cases r with
  | error m => simp [okIs] at h
  | ok l => simp [okIs] at h; rw [h]
end WP

theorem nm_ok (n : Nat) (h : n < 24) : WP.split (nmb n) = .ok [(1, 0, nmb n)] ∧ WP.isName (nmb n) = true := by
  have : ∀ i : Fin 24, (WP.okIs [(1, 0, nmb i.val)] (WP.split (nmb i.val)) && WP.isName (nmb i.val)) = true := by decide +kernel
  have h2 := this ⟨n, h⟩
  rw [Bool.and_eq_true] at h2
  exact ⟨WP.okIs_eq h2.1, h2.2⟩
theorem nm_bad (n : Nat) (h : 24 ≤ n) (h2 : n < 30) : WP.split (nmb n) = .error 0 ∧ WP.isName (nmb n) = false := by
  have : ∀ i : Fin 30, 24 ≤ i.val → (WP.errAt 0 (WP.split (nmb i.val)) && !WP.isName (nmb i.val)) = true := by decide +kernel
  have h3 := this ⟨n, h2⟩ h
  rw [Bool.and_eq_true] at h3
  exact ⟨WP.errAt_eq h3.1, by simpa using h3.2⟩

def kk (K : Nat) : List UInt8 := WP.keys.getD K []
def k3 (k : List UInt8) : List WP.W := [(2, 0, k), (1, k.length + 1, k ++ [115]), (1, 2 * k.length + 3, k ++ [95])]
theorem k3_len (k : List UInt8) : (k3 k).length = 3 := rfl
theorem key_all (K : Nat) (h : K < 16) : WP.split (kk K ++ [32] ++ kk K ++ [115, 32] ++ kk K ++ [95]) = .ok (k3 (kk K)) ∧ WP.isName (kk K) = false ∧ WP.isName (kk K ++ [115]) = true ∧ (kk K).length ≤ 7 := by
  have : ∀ i : Fin 16, (WP.okIs (k3 (kk i.val)) (WP.split (kk i.val ++ [32] ++ kk i.val ++ [115, 32] ++ kk i.val ++ [95])) && !WP.isName (kk i.val) && WP.isName (kk i.val ++ [115]) && decide ((kk i.val).length ≤ 7)) = true := by decide +kernel
  have h2 := this ⟨K, h⟩
  rw [Bool.and_eq_true, Bool.and_eq_true, Bool.and_eq_true] at h2
  exact ⟨WP.okIs_eq h2.1.1.1, by simpa using h2.1.1.2, h2.1.2, by simpa using h2.2⟩

theorem key_cell (w : World) (K : Nat) (h : K < 16) : (w.alloc (.cells #[.string ⟨#[105, 99, 111, 110]⟩, .string ⟨#[115, 99, 97, 108, 101]⟩, .string ⟨#[99, 111, 110, 115, 116]⟩, .string ⟨#[99, 111, 108, 111, 114]⟩, .string ⟨#[115, 104, 97, 112, 101]⟩, .string ⟨#[102, 105, 108, 108]⟩, .string ⟨#[101, 118, 101, 110, 111, 100, 100]⟩, .string ⟨#[110, 111, 110, 122, 101, 114, 111]⟩, .string ⟨#[108, 105, 110, 101]⟩, .string ⟨#[108, 105, 110, 101, 97, 114]⟩, .string ⟨#[114, 97, 100, 105, 97, 108]⟩, .string ⟨#[112, 97, 116, 104]⟩, .string ⟨#[117, 115, 101]⟩, .string ⟨#[97, 116]⟩, .string ⟨#[98, 121]⟩, .string ⟨#[116, 117, 114, 110]⟩] 9)).cell? ⟨w.heap.size, K, none⟩ = some (.string ⟨(kk K).toArray⟩) := by
  rw [World.cell?_alloc_mark]
  have : K = 0 ∨ K = 1 ∨ K = 2 ∨ K = 3 ∨ K = 4 ∨ K = 5 ∨ K = 6 ∨ K = 7 ∨ K = 8 ∨ K = 9 ∨ K = 10 ∨ K = 11 ∨ K = 12 ∨ K = 13 ∨ K = 14 ∨ K = 15 := by omega
  rcases this with rfl | rfl | rfl | rfl | rfl | rfl | rfl | rfl | rfl | rfl | rfl | rfl | rfl | rfl | rfl | rfl <;> rfl

theorem six_at (m : Nat) (h : m < 6) : ∀ h, (⟨#[97, 122, 48, 57, 95, 107]⟩ : ByteArray)[m]'h = six.getD m 0 := by
  have : m = 0 ∨ m = 1 ∨ m = 2 ∨ m = 3 ∨ m = 4 ∨ m = 5 := by omega
  rcases this with rfl | rfl | rfl | rfl | rfl | rfl <;> (intro _; rfl)

theorem own_bcells {w : World} {B : Nat} {ad : Option Addr} {cap : Nat} {l : List UInt8} (h : Own w B 5 1 bcl ad cap l) (hne : l ≠ []) :
    ∃ g, ad = some ⟨g, 0, none⟩ ∧ g < w.heap.size ∧ ∀ (j : Nat) (hj : j < l.length), w.cell? ⟨g, j, none⟩ = some (.int .u8 (l[j].toNat : Int)) := by
  have h0 : 0 < l.length := List.length_pos_iff.2 hne
  rcases h.2 with ⟨_, h2⟩ | ⟨g, c, cur, h1, -, h3, -⟩
  · omega
  · have e : ad = some ⟨g, 0, none⟩ := by cases h1; rfl
    refine ⟨g, e, (Array.getElem?_eq_some_iff.1 h3).1, fun j hj => ?_⟩
    have := World.ownsRow.cells h (g := g) (by rw [h1]; rfl) (j * 1 + 0) (.int .u8 (l[j].toNat : Int)) (by rw [flat_at bcl 1 b_len l j hj 0 (by omega)]; rfl)
    rw [Addr.add_lit] at this
    simpa using this

set_option maxRecDepth 20000 in
set_option maxHeartbeats 1000000 in
theorem wnames_at (A : Nat → Addr) (nI which : Int) (w : World) (hE : Errs13 w A) (hn : -9223372036854775808 ≤ nI ∧ nI ≤ 9223372036854775807) (hw : -9223372036854775808 ≤ which ∧ which ≤ 9223372036854775807) :
    Calls Tryd.prog 6 #[.int .i64 nI, .int .i64 which] w fun e w' => e = .returned (.bool true) ∧ Below w.heap.size w w' := by
  have HE := hid'' hE
  have HT : Hid (ErrT w (A 1)) := ⟨(hE 1 (by omega)).1, (hE 1 (by omega)).2.1⟩
  clear hE
  have kn := hid'' (fun W => number_any nI 30 W (by omega) hn)
  have kw := hid'' (fun W => number_any which 16 W (by omega) hw)
  go_enter Tryd.func6, Tryd.ntmps6
  go_wp2_with (first
    | (go_at_call 7; refine (first8_any _ w HT.out).mono ?_; rintro e w1 ⟨rfl, hb1⟩; have HB1 := hid'' hb1; clear hb1)
    | (go_at_call 16; refine (kn.out _).mono ?_; rintro e w2 ⟨⟨r, rfl, r0, r1⟩, rfl⟩))
  obtain ⟨rn, rfl⟩ := Int.eq_ofNat_of_zero_le r0
  have hrn : rn < 30 := by omega
  obtain ⟨B, hB⟩ : ∃ B, w2.heap.size = B := ⟨_, rfl⟩
  have HO0 : Hid (Own (w2.alloc (.cells #[.int .u8 113] 5)) B 5 1 bcl (some ⟨B, 0, none⟩) 1 (nmb 0)) := by
    have h := World.ownsRow_lit (base := B) (size := 1) (e := 5) w2 #[.int .u8 113] 1 (by omega) (by unfold maxLen; omega) rfl
    rw [hB] at h
    exact h
  have HB0 : Hid (Below w.heap.size w (w2.alloc (.cells #[.int .u8 113] 5))) := HB1.out.alloc HB1.out.size _
  have hwB : w.heap.size ≤ B := by rw [← hB]; exact HB1.out.size
  have hBz : B ≤ (w2.alloc (.cells #[.int .u8 113] 5)).heap.size := by rw [size_alloc]; omega
  rw [hB]
  generalize (w2.alloc (.cells #[.int .u8 113] 5)) = W0 at HO0 HB0 hBz ⊢
  clear HB1 hB kn r0 r1 hn
  go_loopw [6, 7] (fun v i wr => ∃ (j : Nat) (ad' : Option Addr) (cap' : Nat), j ≤ rn ∧ i = .int .i64 ((j : Int) + 1) ∧ v = .slice ad' (j + 1) cap' ∧ Hid (Own wr B 5 1 bcl ad' cap' (nmb j)) ∧ Hid (Below w.heap.size w wr) ∧ B ≤ wr.heap.size) (fun _ i _ => rn + 1 - (intOf i).toNat)
  case atStart => exact ⟨0, _, _, by omega, rfl, rfl, HO0, HB0, hBz⟩
  case round =>
    clear HO0 HB0 hBz
    obtain ⟨j, ad', cap', hj, rfl, rfl, HO, HB, hBr⟩ := hrel
    by_cases hjn : j < rn
    · obtain ⟨m, hm⟩ : ∃ m, (j + 1) % 6 = m := ⟨_, rfl⟩
      have hm6 : m < 6 := by omega
      have hmi : ((j : Int) + 1).tmod 6 = (m : Int) := by rw [Int.tmod_eq_emod_of_nonneg (by omega)]; omega
      have hmi6 : (m : Int) < 6 := by omega
      have hx := six_at m hm6
      have HN : Hid (nmb (j + 1) = nmb j ++ [six.getD m 0]) := by show _ = _; rw [nmb, hm]
      obtain ⟨c, hc⟩ : ∃ c, six.getD m 0 = c := ⟨_, rfl⟩
      rw [hc] at hx HN
      have HL := hid'' (nmb_len j)
      clear hm hc
      go_wp2_with (at_builtin; refine wpList_push _ rfl (.tmp 26) (.tmp 30) 49 rfl B 5 _ 1 1 Tryd.underlying49 infoB rfl (by decide) bcl b_len (nmb j) c (j + 1) HL.out rfl (HO.out.alloc _) _ rfl (new_cells _ _ _) (b_one _) (by omega) (by omega) (by simp; omega) ?_
                   intro ad2 cap2 w4 hown2 hg2
                   have HB4 : Hid (Below w.heap.size w w4) := below_grown (HB.out.alloc HB.out.size _) hg2 (by have := HB.out.size; simp; omega) (fun x hx => Nat.le_trans hwB (HO.out.lt x hx).1)
                   have hB4 : B ≤ w4.heap.size := by have := hg2.size; simp at this; omega
                   have HO4 := hid'' hown2
                   clear hown2 hg2)
      go_roundw
      case rel => exact ⟨j + 1, ad2, cap2, by omega, by go_num, by simp, by rw [HN.out]; exact HO4, HB4, hB4⟩
      case measure => simp [intOf]; omega
    · obtain rfl : j = rn := by omega
      go_upto_region 12 with (go_at_call 16; refine (kw.out _).mono ?_; rintro e w3 ⟨⟨r2, rfl, s0, s1⟩, rfl⟩
                              obtain ⟨K, rfl⟩ := Int.eq_ofNat_of_zero_le s0
                              have hK : K < 16 := by omega
                              have cx := key_cell wr K hK)
      clear cx s0 s1 kw hjn hj
      obtain ⟨g, rfl, hgz, hcs⟩ := own_bcells HO.out (by intro e; have := nmb_len j; rw [e] at this; simp at this)
      have HCV : Hid (∀ W, Below (wr.alloc (.cells #[.string ⟨#[105, 99, 111, 110]⟩, .string ⟨#[115, 99, 97, 108, 101]⟩, .string ⟨#[99, 111, 110, 115, 116]⟩, .string ⟨#[99, 111, 108, 111, 114]⟩, .string ⟨#[115, 104, 97, 112, 101]⟩, .string ⟨#[102, 105, 108, 108]⟩, .string ⟨#[101, 118, 101, 110, 111, 100, 100]⟩, .string ⟨#[110, 111, 110, 122, 101, 114, 111]⟩, .string ⟨#[108, 105, 110, 101]⟩, .string ⟨#[108, 105, 110, 101, 97, 114]⟩, .string ⟨#[114, 97, 100, 105, 97, 108]⟩, .string ⟨#[112, 97, 116, 104]⟩, .string ⟨#[117, 115, 101]⟩, .string ⟨#[97, 116]⟩, .string ⟨#[98, 121]⟩, .string ⟨#[116, 117, 114, 110]⟩] 9)).heap.size (wr.alloc (.cells #[.string ⟨#[105, 99, 111, 110]⟩, .string ⟨#[115, 99, 97, 108, 101]⟩, .string ⟨#[99, 111, 110, 115, 116]⟩, .string ⟨#[99, 111, 108, 111, 114]⟩, .string ⟨#[115, 104, 97, 112, 101]⟩, .string ⟨#[102, 105, 108, 108]⟩, .string ⟨#[101, 118, 101, 110, 111, 100, 100]⟩, .string ⟨#[110, 111, 110, 122, 101, 114, 111]⟩, .string ⟨#[108, 105, 110, 101]⟩, .string ⟨#[108, 105, 110, 101, 97, 114]⟩, .string ⟨#[114, 97, 100, 105, 97, 108]⟩, .string ⟨#[112, 97, 116, 104]⟩, .string ⟨#[117, 115, 101]⟩, .string ⟨#[97, 116]⟩, .string ⟨#[98, 121]⟩, .string ⟨#[116, 117, 114, 110]⟩] 9)) W → (convert 49 9 (.slice (some ⟨g, 0, none⟩) (j + 1) cap')).run Tryd.prog W = .ok (.string ⟨(nmb j).toArray⟩) W) := fun W hb => by
        have h := run_convert_bytes_back (P := Tryd.prog) W 49 9 5 ⟨g, 0, none⟩ cap' (nmb j) Tryd.underlying49 Tryd.underlying5 Tryd.underlying9 (fun i hi => by
          rw [Addr.add_lit, Nat.zero_add, hb.cell (p := ⟨g, i, none⟩) (by show g < _; rw [size_alloc]; omega), ← hcs i hi]
          exact World.cell?_of_block (Below.heap_alloc _ _ _ hgz))
        rw [nmb_len] at h
        exact h
      have HB1 : Hid (Below w.heap.size w (wr.alloc (.cells #[.string ⟨#[105, 99, 111, 110]⟩, .string ⟨#[115, 99, 97, 108, 101]⟩, .string ⟨#[99, 111, 110, 115, 116]⟩, .string ⟨#[99, 111, 108, 111, 114]⟩, .string ⟨#[115, 104, 97, 112, 101]⟩, .string ⟨#[102, 105, 108, 108]⟩, .string ⟨#[101, 118, 101, 110, 111, 100, 100]⟩, .string ⟨#[110, 111, 110, 122, 101, 114, 111]⟩, .string ⟨#[108, 105, 110, 101]⟩, .string ⟨#[108, 105, 110, 101, 97, 114]⟩, .string ⟨#[114, 97, 100, 105, 97, 108]⟩, .string ⟨#[112, 97, 116, 104]⟩, .string ⟨#[117, 115, 101]⟩, .string ⟨#[97, 116]⟩, .string ⟨#[98, 121]⟩, .string ⟨#[116, 117, 114, 110]⟩] 9))) := HB.out.alloc HB.out.size _
      generalize (wr.alloc (.cells #[.string ⟨#[105, 99, 111, 110]⟩, .string ⟨#[115, 99, 97, 108, 101]⟩, .string ⟨#[99, 111, 110, 115, 116]⟩, .string ⟨#[99, 111, 108, 111, 114]⟩, .string ⟨#[115, 104, 97, 112, 101]⟩, .string ⟨#[102, 105, 108, 108]⟩, .string ⟨#[101, 118, 101, 110, 111, 100, 100]⟩, .string ⟨#[110, 111, 110, 122, 101, 114, 111]⟩, .string ⟨#[108, 105, 110, 101]⟩, .string ⟨#[108, 105, 110, 101, 97, 114]⟩, .string ⟨#[114, 97, 100, 105, 97, 108]⟩, .string ⟨#[112, 97, 116, 104]⟩, .string ⟨#[117, 115, 101]⟩, .string ⟨#[97, 116]⟩, .string ⟨#[98, 121]⟩, .string ⟨#[116, 117, 114, 110]⟩] 9)) = W1 at HCV HB1 ⊢
      generalize wr.heap.size = S1
      clear HO HB hBr hgz hcs
      obtain ⟨q1, q2, q3, q4⟩ := key_all K hK
      have hKz : (⟨(kk K).toArray⟩ : ByteArray).size ≤ 7 := by rw [size_mk]; exact q4
      have hNz : (⟨(nmb j).toArray⟩ : ByteArray).size = j + 1 := by rw [size_mk, nmb_len]
      obtain ⟨Kb, hKb⟩ : ∃ Kb : ByteArray, ⟨(kk K).toArray⟩ = Kb := ⟨_, rfl⟩
      obtain ⟨NB, hNB⟩ : ∃ NB : ByteArray, ⟨(nmb j).toArray⟩ = NB := ⟨_, rfl⟩
      have HI1 : Hid (∀ W, Calls Tryd.prog 13 #[.string Kb] W fun e w' => e = .returned (.bool false) ∧ w' = W) := fun W => by
        have h := isName_any Kb W (by rw [← hKb]; omega)
        rw [← hKb, mk_data, q2] at h
        rw [← hKb]; exact h
      have HI2 : Hid (∀ W, Calls Tryd.prog 13 #[.string (Kb ++ ⟨#[115]⟩)] W fun e w' => e = .returned (.bool true) ∧ w' = W) := fun W => by
        have e1 : Kb ++ ⟨#[115]⟩ = ⟨(kk K ++ [115]).toArray⟩ := by rw [← hKb]; exact cat_any _ [115]
        rw [e1]
        have h := isName_any ⟨(kk K ++ [115]).toArray⟩ W (by rw [size_mk, List.length_append]; simp; omega)
        rw [mk_data, q3] at h
        exact h
      have HS2 : Hid (∀ W, Below w.heap.size w W → Calls Tryd.prog 9 #[.string (Kb ++ ⟨#[32]⟩ ++ Kb ++ ⟨#[115, 32]⟩ ++ Kb ++ ⟨#[95]⟩)] W fun e w' => ∃ ad cap, e = .returned (.tuple #[.slice ad 3 cap, .nilIface]) ∧ Own w' W.heap.size 44 3 wcells ad cap (k3 (kk K)) ∧ Below W.heap.size W w') := fun W hb => by
        have e1 : Kb ++ ⟨#[32]⟩ ++ Kb ++ ⟨#[115, 32]⟩ ++ Kb ++ ⟨#[95]⟩ = ⟨(kk K ++ [32] ++ kk K ++ [115, 32] ++ kk K ++ [95]).toArray⟩ := by
          rw [← hKb, show (⟨#[32]⟩ : ByteArray) = ⟨([32] : List UInt8).toArray⟩ from rfl, show (⟨#[115, 32]⟩ : ByteArray) = ⟨([115, 32] : List UInt8).toArray⟩ from rfl, show (⟨#[95]⟩ : ByteArray) = ⟨([95] : List UInt8).toArray⟩ from rfl, cat_any, cat_any, cat_any, cat_any, cat_any]
        rw [e1]
        have hz : (kk K ++ [32] ++ kk K ++ [115, 32] ++ kk K ++ [95]).length ≤ 60000 := by simp; omega
        have h := split_ok ⟨(kk K ++ [32] ++ kk K ++ [115, 32] ++ kk K ++ [95]).toArray⟩ (A 1) W (by rw [size_mk]; exact hz) (HT.out.below hb) (k3 (kk K)) (by rw [mk_data]; exact q1)
        rw [k3_len] at h
        exact h
      rw [hKb] at hKz ⊢
      rw [hNB] at hNz HCV
      have hcv1 := HCV.out W1 (Below.refl _ _)
      by_cases h24 : j < 24
      · obtain ⟨p1, p2⟩ := nm_ok j h24
        have HS1 : Hid (Calls Tryd.prog 9 #[.string NB] W1 fun e w' => ∃ ad cap, e = .returned (.tuple #[.slice ad 1 cap, .nilIface]) ∧ Own w' W1.heap.size 44 3 wcells ad cap [(1, 0, nmb j)] ∧ Below W1.heap.size W1 w') := by
          rw [← hNB]
          exact split_ok ⟨(nmb j).toArray⟩ (A 1) W1 (by rw [size_mk, nmb_len]; omega) (HT.out.below HB1.out) [(1, 0, nmb j)] (by rw [mk_data]; exact p1)
        have HI3 : Hid (∀ W, Calls Tryd.prog 13 #[.string NB] W fun e w' => e = .returned (.bool true) ∧ w' = W) := fun W => by
          have h := isName_any NB W (by omega)
          rw [← hNB, mk_data, p2] at h
          rw [← hNB]; exact h
        have HNB := hid'' hNB
        clear p1 p2 q1 q2 q3 q4 hNB hKb hrn
        go_wp2_with (first
          | (have v1 := u1; go_at_call 9; refine (HS2.out w4 HB4.out).mono ?_; rintro e w5 ⟨ad5, cap5, rfl, hown5, hb5⟩
             obtain ⟨g5, rfl, hg5, hcs5⟩ := own_w hown5 (by simp [k3])
             have d0 : w5.cell? ⟨g5, 0, none⟩ = some (.int .i64 2) := (hcs5 0 (by rw [k3_len]; omega)).1
             have d1 : w5.cell? ⟨g5, 3, none⟩ = some (.int .i64 1) := (hcs5 1 (by rw [k3_len]; omega)).1
             have d2 : w5.cell? ⟨g5, 6, none⟩ = some (.int .i64 1) := (hcs5 2 (by rw [k3_len]; omega)).1
             have HB5 : Hid (Below w.heap.size w w5) := chain HB4.out hb5
             have c5 : w5.cell? ⟨g4, 2, none⟩ = some (.string NB) := (hb5.cell (p := ⟨g4, 2, none⟩) hg4).trans c4
             have hg45 : g4 < w5.heap.size := Nat.lt_of_lt_of_le hg4 hb5.size
             have hcv5 := fun n => HCV.out (w5.drewN n) (below_drewN ((HBW.out).trans (hb5.mono HBW.out.size)) n)
             clear hown5 hb5 hcs5 c4 hcv1)
          | (go_at_call 9; refine HS1.out.mono ?_; rintro e w4 ⟨ad4, cap4, rfl, hown4, hb4⟩
             obtain ⟨g4, rfl, hg4, hcs4⟩ := own_w hown4 (by simp)
             have c4 : w4.cell? ⟨g4, 2, none⟩ = some (.string NB) := by rw [← HNB.out]; exact (hcs4 0 (by simp)).2.2
             have HB4 : Hid (Below w.heap.size w w4) := chain HB1.out hb4
             have HBW := hid'' hb4
             clear hown4 hb4 hcs4
             have u1 : True := trivial)
          | (have v3 := u3; go_at_call 13; refine (HI3.out _).mono ?_; rintro e w8 ⟨rfl, rfl⟩)
          | (have v2 := u2; go_at_call 13; refine (HI2.out _).mono ?_; rintro e w7 ⟨rfl, rfl⟩; have u3 : True := trivial)
          | (go_at_call 13; refine (HI1.out _).mono ?_; rintro e w6 ⟨rfl, rfl⟩; have u2 : True := trivial))
        go_quiet ((go_at_call 13; refine Calls.quiet_of_same (HI3.out _)))
        go_wp2
        go_ret
        exact ⟨rfl, by first | exact HB5.out | exact HB5.out.drew | exact below_drewN HB5.out _⟩
      · obtain ⟨p1, p2⟩ := nm_bad j (by omega) hrn
        have HS1 : Hid (Calls Tryd.prog 9 #[.string NB] W1 fun e w' => ∃ g, e = .returned (.tuple #[.slice none 0 0, .iface 54 (.pointer (some ⟨g, 0, none⟩))]) ∧ w'.heap[g]? = some (.cells #[.int .i64 0, .iface 107 (.pointer (some (A 1)))] 56 (0, 0)) ∧ Below W1.heap.size W1 w') := by
          rw [← hNB]
          exact split_bad ⟨(nmb j).toArray⟩ (A 1) W1 (by rw [size_mk, nmb_len]; omega) (HT.out.below HB1.out) 0 (by rw [mk_data]; exact p1)
        have HI3 : Hid (∀ W, Calls Tryd.prog 13 #[.string NB] W fun e w' => e = .returned (.bool false) ∧ w' = W) := fun W => by
          have h := isName_any NB W (by omega)
          rw [← hNB, mk_data, p2] at h
          rw [← hNB]; exact h
        clear p1 p2 q1 q2 q3 q4 hNB hKb hrn
        go_wp2_with (first
          | (have v1 := u1; go_at_call 9; refine (HS2.out w4 HB4.out).mono ?_; rintro e w5 ⟨ad5, cap5, rfl, hown5, hb5⟩
             obtain ⟨g5, rfl, hg5, hcs5⟩ := own_w hown5 (by simp [k3])
             have d0 : w5.cell? ⟨g5, 0, none⟩ = some (.int .i64 2) := (hcs5 0 (by rw [k3_len]; omega)).1
             have d1 : w5.cell? ⟨g5, 3, none⟩ = some (.int .i64 1) := (hcs5 1 (by rw [k3_len]; omega)).1
             have d2 : w5.cell? ⟨g5, 6, none⟩ = some (.int .i64 1) := (hcs5 2 (by rw [k3_len]; omega)).1
             have HB5 : Hid (Below w.heap.size w w5) := chain HB4.out hb5
             have HG5 : Hid (w5.heap[g4]? = some (.cells #[.int .i64 0, .iface 107 (.pointer (some (A 1)))] 56 (0, 0))) := (hb5.block g4 (Array.getElem?_eq_some_iff.1 HG4.out).1).trans HG4.out
             have HW5 : Hid (Below W1.heap.size W1 w5) := HBW.out.trans (hb5.mono HBW.out.size)
             clear hown5 hb5 hcs5 hcv1)
          | (go_at_call 9; refine HS1.out.mono ?_; rintro e w4 ⟨g4, rfl, hg4, hb4⟩
             have HB4 : Hid (Below w.heap.size w w4) := chain HB1.out hb4
             have HBW := hid'' hb4
             have HG4 := hid'' hg4
             clear hg4 hb4
             have u1 : True := trivial)
          | (go_at_call 15; refine (placed_any 101 0 _ (by decide)).mono ?_; rintro e w8 ⟨rfl, hb8⟩
             have HB8 : Hid (Below w.heap.size w w8) := chain HB5.out hb8
             have HG8 : Hid (w8.heap[g4]? = some (.cells #[.int .i64 0, .iface 107 (.pointer (some (A 1)))] 56 (0, 0))) := (hb8.block g4 (Array.getElem?_eq_some_iff.1 HG5.out).1).trans HG5.out
             have HW8 : Hid (Below W1.heap.size W1 w8) := HW5.out.trans (hb8.mono HW5.out.size)
             clear hb8)
          | (go_at_call 12; refine (same_at A w8 (HE.out.below HB8.out) 0 (by decide) (A 1) rfl g4 0 101 rfl HG8.out).mono ?_; rintro e w9 ⟨rfl, hb9⟩
             have HB9 : Hid (Below w.heap.size w w9) := chain HB8.out hb9
             have hcv9 := HCV.out w9 (HW8.out.trans (hb9.mono HW8.out.size))
             clear hb9)
          | (have v3 := u3; go_at_call 13; refine (HI3.out _).mono ?_; rintro e w10 ⟨rfl, rfl⟩)
          | (have v2 := u2; go_at_call 13; refine (HI2.out _).mono ?_; rintro e w7 ⟨rfl, rfl⟩; have u3 : True := trivial)
          | (go_at_call 13; refine (HI1.out _).mono ?_; rintro e w6 ⟨rfl, rfl⟩; have u2 : True := trivial))
        go_ret
        exact ⟨rfl, HB9.out⟩

end Go.Proofs.YtdfbhdnklefbaaaDoor

import Derived.Test.YtcnlkdoifogkbaaGreatDoorJE
import Derived.Test.YtcnlkdoifogkbaaGreatDoorJG
import Derived.Test.YtcnlkdoifogkbaaGreatDoorEncNum
import Derived.OpenShut
import Derived.Test.YtcnlkdoifogkbaaGreatDoorIconBase
import Derived.Test.YtcnlkdoifogkbaaGreatDoorMake6
/-
  The document's own numbers as bytes: Zig, a copy of bytes, Put; walked over the program.
-/
namespace Go.Proofs.YtcnlkdoifogkbaaGreatDoor
open Go.RowKit

def bf (b : Nat) : List Value := [.int .u8 (b : Int)]
theorem bf_len (b : Nat) : (bf b).length = 1 := rfl
theorem bf_one (b : Nat) : ∀ u ∈ bf b, u.oneCell' = true := by
  intro u hu
  simp only [bf, List.mem_singleton] at hu
  subst hu
  rfl
theorem bf_vals (bs : List Nat) : bs.flatMap bf = vals bs := by
  unfold vals bf
  induction bs with
  | nil => rfl
  | cons x r ih => rw [List.flatMap_cons, ih]; rfl

theorem rzig_any (x : Int) (w : World) (h : -9223372036854775808 ≤ x ∧ x < 9223372036854775808) :
    Calls Tryz.prog 93 #[.int .i64 x] w fun e w' => e = .returned (.int .u64 (EP.zig x)) ∧ w' = w := by
  rw [← zig_nat]
  unfold zig
  go_enter Tryz.func93, Tryz.ntmps93
  by_cases h0 : x < 0
  · rw [if_pos h0]
    go_wp2
    go_ret
    exact ⟨ret_int (by omega), rfl⟩
  · rw [if_neg h0]
    go_wp2
    go_ret
    exact ⟨ret_int (by omega), rfl⟩

set_option maxRecDepth 20000 in
set_option maxHeartbeats 1000000 in
theorem copy_bytes (v : Value) (l : List Nat) (w : World) (hm : Many w 5 1 bf v l) (hl : l.length ≤ 900000) :
    Calls Tryz.prog 9 #[v] w fun e w' => (∃ ad cap, e = .returned (.slice ad l.length cap) ∧ Own w' w.heap.size 5 1 bf ad cap l) ∧ Below w.heap.size w w' := by
  have HM : Hid (Many w 5 1 bf v l) := hm
  obtain ⟨ad, cap, hv, hl1, hl2⟩ := HM.out.len
  unfold maxLen at hl2
  obtain ⟨L, hL⟩ : ∃ L, l.length = L := ⟨_, rfl⟩
  have HL : Hid (l.length = L) := hL
  rw [hL] at hv hl1 hl ⊢
  subst hv
  clear hm hL
  obtain ⟨i0, hi, hz0, hz1, hz2⟩ := info_parts infoByte
  obtain ⟨B, hB⟩ : ∃ B, w.heap.size = B := ⟨_, rfl⟩
  have hBw : B ≤ w.heap.size := by omega
  go_enter Tryz.func9, Tryz.ntmps9
  go_wp2_with (at_make; refine wpList_make_own _ rfl (.const (.int .i64 0)) (.tmp 6) 32 rfl B 5 i0 _ 1 Tryz.underlying32 hi hz0 hz1 .i64 .i64 (L : Int) L rfl rfl rfl (by rw [hz2]; omega) (by unfold maxLen; omega) hBw ?_; intro w1 hown1 hg1
               have HB1 : Hid (Below B w w1) := (by rw [← hB]; exact (Below.refl _ _).grown hg1 (Nat.le_refl _) (fun k e => by cases e))
               have HO1 : Hid (Own w1 B 5 1 bf (some ⟨B, 0, none⟩) L []) := (by have h := hown1; rw [hB] at h; exact h)
               have hz1' : B ≤ w1.heap.size := (by have := hg1.size; omega)
               clear hown1 hg1)
  go_loopw [3, 4] (fun s i wr => ∃ (k : Nat) (ad' : Option Addr) (cap' : Nat), k ≤ L ∧ i = .int .i64 k ∧ s = .slice ad' k cap' ∧ Hid (Own wr B 5 1 bf ad' cap' (l.take k)) ∧ Hid (Below B w wr) ∧ B ≤ wr.heap.size) (fun _ i _ => L - (intOf i).toNat)
  case atStart => exact ⟨0, _, _, by omega, rfl, rfl, HO1, HB1, hz1'⟩
  case round =>
    clear HO1 HB1 hz1'
    obtain ⟨k, ad', cap', hk, rfl, rfl, HO, HB, hBr⟩ := hrel
    have HT : Hid ((l.take k).length = k) := by show _ = _; rw [List.length_take, HL.out]; omega
    by_cases hkL : k < L
    · have hks : k < l.length := by rw [HL.out]; exact hkL
      obtain ⟨g, o, cap2, hv', hg, -, -, hc⟩ := HM.out.at bf_len k hks
      obtain ⟨rfl, -⟩ : ad = some ⟨g, o, none⟩ ∧ _ := by simpa using hv'
      clear hv'
      have r : ∀ j, wr.cell? ⟨g, j, none⟩ = w.cell? ⟨g, j, none⟩ := fun j => HB.out.cell (p := ⟨g, j, none⟩) (by show g < B; omega)
      have hgr : g < wr.heap.size := by omega
      have hA : l.take (k + 1) = l.take k ++ [l[k]] := List.take_succ_eq_append_getElem hks
      obtain ⟨x, hx⟩ : ∃ x, l[k] = x := ⟨_, rfl⟩
      rw [hx] at hc hA
      have HA := hid' hA
      have c0 : wr.cell? ⟨g, o + k, none⟩ = some (.int .u8 (x : Int)) := by rw [r]; have := hc 0 _ rfl; simpa using this
      have hki : (k : Int) < (L : Int) := by omega
      clear hc hx r hA
      go_wp2_with (at_builtin; refine wpList_push _ rfl (.tmp 14) (.tmp 19) 32 rfl B 5 _ 1 1 Tryz.underlying32 infoByte rfl (by decide) bf bf_len (l.take k) x k HT.out rfl (HO.out.alloc _) _ rfl (new_cells _ _ _) (bf_one _) (by omega) (by omega) (by simp; omega) ?_
                   intro ad2 cap2 w2 hown2 hg2
                   have HB2 : Hid (Below B w w2) := below_grown (HB.out.alloc hBr _) hg2 (by simp; omega) (fun x hx => (HO.out.lt x hx).1)
                   have hB2 : B ≤ w2.heap.size := by have := hg2.size; simp at this; omega
                   have HO2 := hid' hown2
                   clear hown2 hg2)
      go_roundw
      case rel => exact ⟨k + 1, ad2, cap2, by omega, by go_num, rfl, by rw [HA.out]; exact HO2, HB2, hB2⟩
      case measure => simp [intOf]; omega
    · obtain rfl : k = L := by omega
      have e1 : l.take k = l := List.take_of_length_le (by rw [HL.out]; omega)
      rw [e1] at HO
      go_wp2
      go_ret
      exact ⟨⟨ad', cap', rfl, by rw [hB]; exact HO.out⟩, by rw [hB]; exact HB.out⟩

end Go.Proofs.YtcnlkdoifogkbaaGreatDoor

/-
  Numbers that came in as a slice.
-/
namespace Go.Proofs.YtcnlkdoifogkbaaGreatDoor
open Go.RowKit

/-- Integers that came in as a slice: none, or cell by cell. -/
def IsRow (k : IntKind) (w : World) (a : Option Addr) (len cap : Nat) (zs : List Int) : Prop :=
  (a = none ∧ len = 0 ∧ cap = 0 ∧ zs = []) ∨
  ∃ x, a = some x ∧ len ≤ cap ∧ cap ≤ maxLen ∧ zs.length = cap ∧ (∀ i, i < zs.length → w.cell? (x.add i) = some (.int k (zs.getD i 0))) ∧ ∀ n ∈ zs, (Lit.int k n).wf = true

end Go.Proofs.YtcnlkdoifogkbaaGreatDoor

/-
  Numbers that came in, as the numbers that an icon is made of; an icon made of them.
-/
namespace Go.Proofs.YtcnlkdoifogkbaaGreatDoor
open Go.RowKit

theorem seq_of_row {w w1 : World} {a : Option Addr} {len cap : Nat} {zs : List Int} (h : IsRow .i64 w a len cap zs) (hb : Below w.heap.size w w1) :
    SeqOk (w1.alloc (.cells #[.slice a len cap, .int .i64 0] 31)) w1.heap.size 0 := by
  rcases h with ⟨rfl, rfl, rfl, -⟩ | ⟨x, rfl, hl, hm, hz, hc, hw⟩
  · exact ⟨none, 0, 0, 0, blk_new w1 31 _, by omega, by omega, by unfold maxLen; omega, fun j hj => absurd hj (by omega)⟩
  · refine ⟨some x, len, cap, 0, blk_new w1 31 _, by omega, hl, hm, fun j hj => ?_⟩
    have hj' : j < zs.length := by omega
    have h1 := hc j hj'
    have h2 := World.block_lt_of_cell? w _ h1
    have h3 := h2
    rw [add_block] at h3
    have hlt : x.block < w1.heap.size := Nat.lt_of_lt_of_le h3 hb.size
    have hwf := hw (zs.getD j 0) (by simp [List.getD, hj'])
    refine ⟨x, zs.getD j 0, rfl, hlt, ?_, bounds_i64 hwf⟩
    have e : (w1.alloc (.cells #[.slice (some x) len cap, .int .i64 0] 31)).cell? (x.add j) = w1.cell? (x.add j) := World.cell?_of_block (Below.heap_alloc _ _ _ (by rw [add_block]; exact hlt))
    rw [e, hb.cell (p := x.add j) h2]
    exact h1

/-- An icon made of numbers that came in. -/
theorem icon_row {w w1 : World} {a : Option Addr} {len cap : Nat} {zs : List Int} (h : IsRow .i64 w a len cap zs) (hb : Below w.heap.size w w1) :
    Calls Tryz.prog 6 #[.pointer (some ⟨w1.heap.size, 0, none⟩)] (w1.alloc (.cells #[.slice a len cap, .int .i64 0] 31)) fun e w' => (∃ i : IC.Icon, e = .returned (.agg i.cells.toArray) ∧ Good i ∧ IconOk w' i) ∧ Below w1.heap.size w1 w' := by
  refine (icon_any w1.heap.size 0 _ (seq_of_row h hb) (by omega)).mono ?_
  rintro e w' ⟨hi, hs, hm⟩
  exact ⟨hi, ((Below.refl _ _).alloc (Nat.le_refl _) _).trans (hm.low (Nat.le_refl _) (by simp))⟩

end Go.Proofs.YtcnlkdoifogkbaaGreatDoor

/-
  An icon's bytes are read as it was; with one byte more, or less, they are not: walked over the program.
-/
set_option linter.unusedVariables false
namespace Go.Proofs.YtcnlkdoifogkbaaGreatDoor
open Go.RowKit

theorem errs3_of {w : World} {A : Nat → Addr} (h : Errs13 w A) : Errs3 w (fun i => A (errG i)) := fun i hi => ⟨(h _ (errG_lt i hi)).1, (h _ (errG_lt i hi)).2.1⟩

theorem own_at' {w : World} {B n cap : Nat} {ad : Option Addr} {xs : List Value} (h : w.ownsRow B 5 1 (.slice ad n cap) n xs) (hn : 0 < n) : ∃ g, ad = some ⟨g, 0, none⟩ ∧ n ≤ cap ∧ cap ≤ maxLen ∧ B ≤ g ∧ g < w.heap.size := by
  rcases h.2 with ⟨_, h2⟩ | ⟨g, c, cur, h1, h2, h3, h4, h5, _⟩
  · omega
  · cases h1
    exact ⟨g, rfl, h4, h5, h2, (Array.getElem?_eq_some_iff.1 h3).1⟩

theorem vals_flat (l : List Nat) : vals l = l.flatMap bf := by
  induction l with
  | nil => rfl
  | cons x r ih => rw [List.flatMap_cons, ← ih]; rfl

theorem own_bf {w : World} {B cap : Nat} {ad : Option Addr} {l : List Nat} (h : w.ownsRow B 5 1 (.slice ad l.length cap) l.length (vals l)) : Own w B 5 1 bf ad cap l := by
  unfold Own
  rw [← vals_flat]
  exact h

theorem cells_own' {w : World} {B cap : Nat} {ad : Option Addr} {l : List Nat} (h : Own w B 5 1 bf ad cap l) : Cells w ad l := by
  intro j hj
  unfold Own at h
  obtain ⟨g, rfl, -, -, -, hg⟩ := own_at' h (by omega)
  refine ⟨g, 0, rfl, hg, ?_⟩
  rw [Nat.zero_add]
  have := World.ownsRow.cells h (g := g) rfl j (.int .u8 (l[j] : Int)) (by rw [← vals_flat]; simp [vals, hj])
  rw [Addr.add_lit, Nat.zero_add] at this
  exact this

theorem cells_cut {w : World} {ad : Option Addr} {l : List Nat} (h : Cells w ad l) (k : Nat) : Cells w ad (l.take k) := by
  intro j hj
  have hj' : j < l.length := by rw [List.length_take] at hj; omega
  obtain ⟨b, o, h1, h2, h3⟩ := h j hj'
  exact ⟨b, o, h1, h2, by rw [h3, List.getElem_take]⟩

/-! Bytes are bytes. -/
def B256 (l : List Nat) : Prop := ∀ c ∈ l, c < 256
theorem b_app {a b : List Nat} (ha : B256 a) (hb : B256 b) : B256 (a ++ b) := fun c hc => (List.mem_append.1 hc).elim (ha c) (hb c)
theorem b_nil : B256 [] := fun c h => absurd h (by simp)
theorem b_num (n : Int) : B256 (EP.num n) := WP.enc_lt256 _
theorem b_zg (z : Int) : B256 (EP.zg z) := WP.enc_lt256 _
theorem b_pt (p : IC.Pt) : B256 (EP.pt p) := b_app (b_zg _) (b_zg _)
theorem b_way : ∀ (l : List IC.Pt) (q : IC.Pt), B256 (EP.way q l)
  | [], _ => b_nil
  | p :: r, q => b_app (b_app (b_zg _) (b_zg _)) (b_way r p)
theorem b_runs : ∀ (rs : List (Int × Nat)) (q : IC.Pt) (l : List IC.Seg), B256 (EP.runsB q rs l)
  | [], _, _ => b_nil
  | (k, n) :: r, q, l => b_app (b_app (b_num _) (b_way _ _)) (b_runs r _ _)
theorem b_flat {α : Type} (f : α → List Nat) (l : List α) (h : ∀ x ∈ l, B256 (f x)) : B256 (l.flatMap f) := fun c hc => by
  obtain ⟨x, hx, hc⟩ := List.mem_flatMap.1 hc
  exact h x hx c hc
theorem b_path (p : IC.Path) : B256 (EP.path p) := b_app (b_app (b_num _) (b_pt _)) (b_runs _ _ _)
theorem b_paint (p : IC.Paint) : B256 (EP.paint p) := by
  unfold EP.paint
  refine b_app (b_num _) ?_
  split
  · exact b_nil
  · refine b_app (b_app (b_num _) (b_pt _)) ?_
    split
    · exact b_pt _
    · exact b_num _
theorem b_cmd (c : IC.Cmd) : B256 (EP.cmd c) := by
  unfold EP.cmd
  refine b_app (b_app (b_app (b_num _) ?_) (b_paint _)) (b_app (b_num _) (b_flat _ _ fun p _ => b_path p))
  split
  · exact b_num _
  · exact b_nil
theorem b_icon {i : IC.Icon} (h : ∀ c ∈ i.cols, (0 ≤ c.r ∧ c.r < 256) ∧ (0 ≤ c.g ∧ c.g < 256) ∧ (0 ≤ c.b ∧ c.b < 256) ∧ (0 ≤ c.a ∧ c.a < 256)) : B256 (EP.icon i) := by
  unfold EP.icon
  refine b_app (b_app (b_app (b_app (b_app ?_ (b_num _)) (b_num _)) (b_num _)) (b_app (b_num _) (b_flat _ _ fun c hc => ?_))) (b_app (b_num _) (b_flat _ _ fun c _ => b_cmd c))
  · intro c hc
    simp only [List.mem_cons, List.not_mem_nil, or_false] at hc
    omega
  · have := h c hc
    intro x hx
    unfold EP.col at hx
    simp only [List.mem_cons, List.not_mem_nil, or_false] at hx
    omega

theorem slice_bytes (a : Option Addr) (n cap k : Nat) (hk : k ≤ cap) (W : World) : (Instr.slice 32 (.slice a n cap) none (some (.int .i64 (k : Int))) none).run Tryz.prog W = .ok (.slice a k cap) W := by
  rw [run_slice_h (P := Tryz.prog) W 32 a n cap (by kernel_rfl) .i64 (k : Int) (by omega) (by omega)]
  have e : (sizeOf (Tryz.prog.elem 32)).run Tryz.prog W = .ok 1 W := by simp [go_sem]
  have e2 : (a.map fun x => x.add 0) = a := by cases a <;> simp [Addr.add]
  rw [e]
  simp [Result.andThen, sliced, e2]

set_option maxRecDepth 100000 in
set_option maxHeartbeats 4000000 in
theorem decback (A : Nat → Addr) (a : Option Addr) (len cap0 : Nat) (zs : List Int) (cut : Int) (y : Nat) (w : World) (hE : Errs13 w A) (hl : len ≤ 300) (hr : IsRow .i64 w a len cap0 zs) (hc1 : -9223372036854775808 ≤ cut ∧ cut ≤ 9223372036854775807) (hy : y < 256) :
    Calls Tryz.prog 3 #[.slice a len cap0, .int .i64 cut, .int .u8 (y : Int)] w fun e w' => e = .returned (.bool true) ∧ Below w.heap.size w w' := by
  have kf := hid'' (dfirst_any A w hE)
  have ki : Hid (∀ W, Below w.heap.size w W → Calls Tryz.prog 6 #[.pointer (some ⟨W.heap.size, 0, none⟩)] (W.alloc (.cells #[.slice a len cap0, .int .i64 0] 31)) fun e w' => (∃ i : IC.Icon, e = .returned (.agg i.cells.toArray) ∧ Good i ∧ IconOk w' i) ∧ Below W.heap.size W w') := fun W hb => icon_row hr hb
  have HE := hid'' hE
  have hli : ¬ (300 : Int) < (len : Int) := by omega
  clear hE hr
  go_enter Tryz.func3, Tryz.ntmps3
  go_wp2_with (first
    | (go_at_call 5; refine kf.out.mono ?_; rintro e w1 ⟨rfl, hb1⟩; have B1 := hid'' hb1; clear hb1)
    | (go_at_call 6; refine (ki.out _ B1.out).mono ?_; rintro e w2 ⟨⟨i, rfl, hgood, hok⟩, hb2⟩
       have B2 := hid'' (B1.out.trans (hb2.mono B1.out.size))
       have HG := hid'' hgood
       have HOK := hid'' hok
       obtain ⟨adc, capc, hvc, hcc1, hcc2⟩ := Many.len hok.1
       obtain ⟨adm, capm, hvm, hmm1, hmm2⟩ := Many.len hok.2.1
       obtain ⟨I, hI⟩ : ∃ I, I = i := ⟨_, rfl⟩
       obtain ⟨a0, a1, a2, vc, cols, vm, cmds⟩ := i
       replace hvc : vc = .slice adc cols.length capc := hvc
       replace hvm : vm = .slice adm cmds.length capm := hvm
       have HI : Hid (I.cells = [.int .i64 a0, .int .i64 a1, .int .i64 a2, .slice adc cols.length capc, .slice adm cmds.length capm]) := by rw [hI, hvc, hvm]; rfl
       rw [← hI] at HG HOK ⊢
       rw [show I.cells = _ from HI.out]
       clear hgood hok hb2 hI hvc hvm hcc1 hcc2 hmm1 hmm2
       obtain ⟨nc, hnc⟩ : ∃ nc, cols.length = nc := ⟨_, rfl⟩
       obtain ⟨nm, hnm⟩ : ∃ nm, cmds.length = nm := ⟨_, rfl⟩
       rw [hnc, hnm] at HI ⊢
       clear hnc hnm)
    | (go_at_call 7
       have kB := bytes_ok (fun i => A (errG i)) I (w2.alloc (.cells #[.int .i64 a0, .int .i64 a1, .int .i64 a2, .slice adc nc capc, .slice adm nm capm] 27)) (errs3_of (HE.out.below (B2.out.alloc B2.out.size _))) (HOK.out.below ((Below.refl _ _).alloc (Nat.le_refl _) _)) HG.out.cols HG.out.chk
       rw [HI.out] at kB
       obtain ⟨L, hL⟩ : ∃ L, (EP.icon I).length = L := ⟨_, rfl⟩
       have hL6 : L ≤ 6000 := by rw [← hL]; exact good_length HG.out
       have hL4 : 4 ≤ L := by rw [← hL]; exact icon_four I
       rw [hL] at kB
       refine kB.mono ?_
       clear kB
       rintro e w3 ⟨⟨ad, cap, rfl, hown⟩, hb3⟩
       obtain ⟨g, rfl, hcap1, hcap2, -, hg3⟩ := own_at' hown (by omega)
       unfold maxLen at hcap2
       have HL := hid'' hL
       have HO3 : Hid (Own w3 (w2.alloc (.cells #[.int .i64 a0, .int .i64 a1, .int .i64 a2, .slice adc nc capc, .slice adm nm capm] 27)).heap.size 5 1 bf (some ⟨g, 0, none⟩) cap (EP.icon I)) := own_bf (by rw [hL]; exact hown)
       have HC3 : Hid (Cells w3 (some ⟨g, 0, none⟩) (EP.icon I)) := cells_own' HO3.out
       have B3 := hid'' ((B2.out.alloc B2.out.size (.cells #[.int .i64 a0, .int .i64 a1, .int .i64 a2, .slice adc nc capc, .slice adm nm capm] 27)).trans (hb3.mono (B2.out.alloc B2.out.size _).size))
       have HX3 : Hid (Blk w3 w2.heap.size 27 #[.int .i64 a0, .int .i64 a1, .int .i64 a2, .slice adc nc capc, .slice adm nm capm]) := (blk_new w2 27 _).below hb3 (by simp)
       have HK3 : Hid (IconOk w3 I) := (HOK.out.below ((Below.refl _ _).alloc (Nat.le_refl _) _)).below hb3
       have hL0 : ((L : Int) == 0) = false := by rw [beq_eq_false_iff_ne]; omega
       have kd1 : Hid (∀ W, Below w3.heap.size w3 W → Calls Tryz.prog 8 #[.slice (some ⟨g, 0, none⟩) L cap] W fun e w' => ∃ j : IC.Icon, e = .returned (.tuple #[.agg j.cells.toArray, .nilIface]) ∧ Hid (DP.bare I = DP.bare j) ∧ Hid (IconOk w' j) ∧ Below W.heap.size W w') := fun W hb => by
         have h := decode_any A (some ⟨g, 0, none⟩) cap (EP.icon I) W (HE.out.below (B3.out.trans (hb.mono B3.out.size))) (HC3.out.below hb) (b_icon (good_cols HG.out)) (by omega) (by omega)
         rw [hL, DP.icon_right I HG.out.chk (good_cols HG.out) (by omega)] at h
         refine h.mono ?_
         rintro e w' ⟨hb, j, rfl, hj, hjo⟩
         exact ⟨j, rfl, hj, hjo, hb⟩
       have kd2 : Hid (∀ (ad2 : Option Addr) (cap2 B2 : Nat) W, Below w3.heap.size w3 W → L + 1 ≤ cap2 → Own W B2 5 1 bf ad2 cap2 (EP.icon I ++ [y]) → Calls Tryz.prog 8 #[.slice ad2 (L + 1) cap2] W fun e w' => ∃ g2, e = .returned (.tuple #[.agg #[.int .i64 0, .int .i64 0, .int .i64 0, .slice none 0 0, .slice none 0 0], .iface 79 (.pointer (some ⟨g2, 0, none⟩))]) ∧ Hid (Blk w' g2 81 #[.int .i64 L, errD A 10]) ∧ Below W.heap.size W w') := fun ad2 cap2 B2' W hb hc2 ho => by
         have h := decode_any A ad2 cap2 (EP.icon I ++ [y]) W (HE.out.below (B3.out.trans (hb.mono B3.out.size))) (cells_own' ho) (b_app (b_icon (good_cols HG.out)) (fun c hc => by rw [List.mem_singleton.1 hc]; exact hy)) (by simp; omega) (by simp; omega)
         rw [DP.icon_trail I HG.out.chk (good_cols HG.out) y (by omega), List.length_append, hL] at h
         refine h.mono ?_
         rintro e w' ⟨hb, -, g2, rfl, hg2⟩
         exact ⟨g2, rfl, hg2, hb⟩
       have kd3 : Hid (∀ k : Nat, k < L → ∀ W, Below w3.heap.size w3 W → Calls Tryz.prog 8 #[.slice (some ⟨g, 0, none⟩) k cap] W fun e w' => ∃ (g3 n : Nat), e = .returned (.tuple #[.agg #[.int .i64 0, .int .i64 0, .int .i64 0, .slice none 0 0, .slice none 0 0], .iface 79 (.pointer (some ⟨g3, 0, none⟩))]) ∧ Hid (Blk w' g3 81 #[.int .i64 n, errD A 6]) ∧ Below W.heap.size W w') := fun k hk W hb => by
         have h := decode_any A (some ⟨g, 0, none⟩) cap ((EP.icon I).take k) W (HE.out.below (B3.out.trans (hb.mono B3.out.size))) (cells_cut (HC3.out.below hb) k) (fun c hc => b_icon (good_cols HG.out) c (List.mem_of_mem_take hc)) (by rw [List.length_take]; omega) (by rw [List.length_take]; omega)
         obtain ⟨n, hn⟩ := DP.icon_cut I HG.out.chk (good_cols HG.out) (by omega) k (by omega)
         rw [hn, List.length_take, hL, Nat.min_eq_left (by omega)] at h
         refine h.mono ?_
         rintro e w' ⟨hb, -, g3, rfl, hg3⟩
         exact ⟨g3, n, rfl, hg3, hb⟩
       have kcp : Hid (∀ W, Below w3.heap.size w3 W → Calls Tryz.prog 9 #[.slice (some ⟨g, 0, none⟩) L cap] W fun e w' => (∃ ad cap, e = .returned (.slice ad L cap) ∧ Hid (Own w' W.heap.size 5 1 bf ad cap (EP.icon I))) ∧ Below W.heap.size W w') := fun W hb => by
         have hm := (HO3.out.below hb (Nat.le_refl _)).many
         rw [hL] at hm
         have h := copy_bytes (.slice (some ⟨g, 0, none⟩) L cap) (EP.icon I) W hm (by omega)
         rw [hL] at h
         exact h
       have X0 := hid'' (Below.refl w3.heap.size w3)
       clear hown hb3 hL
       obtain ⟨x0, x1, x2, x3, x4⟩ := five_cells HX3.out
       have zx := HX3.out.lt
       have u1 : True := trivial)
    | (have v3 := u3; go_at_call 8; refine (kd3.out _ hkL _ X7.out).mono ?_; rintro e w8 ⟨g8, n8, rfl, hG8, hb8⟩
       have X8 := hid'' (X7.out.trans (hb8.mono X7.out.size))
       have C78 : Below w7.heap.size w7 w8 := ((Below.refl _ _).alloc (Nat.le_refl _) _).trans (hb8.mono (by simp))
       have C68 : Below w6.heap.size w6 w8 := Y7.out.trans (C78.mono Y7.out.size)
       have C58 : Below (w4.alloc (.cells #[.int .i64 j0, .int .i64 j1, .int .i64 j2, .slice adj njc capj, .slice adn njm capn] 27)).heap.size (w4.alloc (.cells #[.int .i64 j0, .int .i64 j1, .int .i64 j2, .slice adj njc capj, .slice adn njm capn] 27)) w8 := Z6.out.trans (C68.mono Z6.out.size)
       have C48 : Below w4.heap.size w4 w8 := ((Below.refl _ _).alloc (Nat.le_refl _) _).trans (C58.mono (by simp))
       have HG7 := hid'' (hG7.out.below C78 hG7.out.lt)
       obtain ⟨p0, p1, p2, p3, p4⟩ := five_cells ((HX3.out.below X8.out HX3.out.lt).alloc (.cells #[.int .i64 0, .int .i64 0, .int .i64 0, .slice none 0 0, .slice none 0 0] 27))
       obtain ⟨q0, q1, q2, q3, q4⟩ := five_cells ((HY5.out.below C58 HY5.out.lt).alloc (.cells #[.int .i64 0, .int .i64 0, .int .i64 0, .slice none 0 0, .slice none 0 0] 27))
       have ks : Hid (∀ W, Below w8.heap.size w8 W → Calls Tryz.prog 11 #[.agg #[.int .i64 a0, .int .i64 a1, .int .i64 a2, .slice adc nc capc, .slice adm nm capm], .agg #[.int .i64 j0, .int .i64 j1, .int .i64 j2, .slice adj njc capj, .slice adn njm capn]] W fun e w' => e = .returned (.bool true) ∧ Below W.heap.size W w') := fun W hb => by
         have h := same_icon I J W (HK3.out.below (X8.out.trans (hb.mono X8.out.size))) (hjo.out.below (C48.trans (hb.mono C48.size))) (icon_chk HG.out.chk) (DP.iconB_bare hj.out (icon_chk HG.out.chk))
         rw [HI.out, HJ.out, (sIcon_iff I J).2 (DP.sameI_bare hj.out)] at h
         exact h
       have kse : Hid (∀ W, Below w8.heap.size w8 W → Calls Tryz.prog 12 #[.iface 79 (.pointer (some ⟨g7, 0, none⟩)), .agg #[.int .i64 111, .bool true, .int .i64 L]] W fun e w' => e = .returned (.bool true) ∧ Below W.heap.size W w') := fun W hb =>
         same_at A W (HE.out.below (B3.out.trans ((X8.out.trans (hb.mono X8.out.size)).mono B3.out.size))) 10 (by decide) (A (perm 10)) rfl g7 L 111 (by decide) (HG7.out.below hb HG7.out.lt)
       have kfa : Hid (∀ W, Below w8.heap.size w8 W → Calls Tryz.prog 14 #[.iface 79 (.pointer (some ⟨g8, 0, none⟩))] W fun e w' => e = .returned (.agg #[.int .i64 107, .bool true, .int .i64 n8]) ∧ Below W.heap.size W w') := fun W hb =>
         fault_at A W (HE.out.below (B3.out.trans ((X8.out.trans (hb.mono X8.out.size)).mono B3.out.size))) 6 (by decide) (A (perm 6)) rfl g8 n8 (hG8.out.below hb hG8.out.lt)
       clear hb8 C78 C68 C58 C48)
    | (go_at_call 11; refine (ks.out _ ((Below.refl _ _).alloc (Nat.le_refl _) _)).mono ?_; rintro e w10 ⟨rfl, hb10⟩
       have B10 : Hid (Below w8.heap.size w8 w10) := hid'' (((Below.refl _ _).alloc (Nat.le_refl _) _).trans (hb10.mono (by simp)))
       clear hb10)
    | (go_at_call 13; refine (placed_any 111 (L : Int) _ (by decide)).mono ?_; rintro e w11 ⟨rfl, hb11⟩
       have B11 := hid'' (B10.out.trans (hb11.mono B10.out.size))
       clear hb11)
    | (go_at_call 12; refine (kse.out _ B11.out).mono ?_; rintro e w12 ⟨rfl, hb12⟩
       have B12 := hid'' (B11.out.trans (hb12.mono B11.out.size))
       clear hb12)
    | (go_at_call 14; refine (kfa.out _ B12.out).mono ?_; rintro e w13 ⟨rfl, hb13⟩
       have B13 := hid'' (B12.out.trans (hb13.mono B12.out.size))
       have hfd : ∀ W : World, (Instr.field 44 (.agg #[.int .i64 107, .bool true, .int .i64 (n8 : Int)]) 0).run Tryz.prog W = .ok (.int .i64 107) W := fun _ => by kernel_rfl
       clear hb13)
    | (have v2 := u2; go_at_call 8; refine (kd2.out _ _ _ _ X6.out hcap6 HO6.out).mono ?_; rintro e w7 ⟨g7, rfl, hG7, hb7⟩
       have X7 := hid'' ((X6.out.trans (hb7.mono X6.out.size)).alloc (X6.out.trans (hb7.mono X6.out.size)).size (.cells #[.int .i64 0, .int .i64 0, .int .i64 0, .slice none 0 0, .slice none 0 0] 27))
       have Y7 := hid'' hb7
       clear hb7
       have u3 : True := trivial)
    | (go_at_call 8; refine (kd1.out _ X0.out).mono ?_; rintro e w4 ⟨j, rfl, hj, hjo, hb4⟩
       obtain ⟨adj, capj, hvj, -, -⟩ := Many.len hjo.out.1
       obtain ⟨adn, capn, hvn, -, -⟩ := Many.len hjo.out.2.1
       obtain ⟨J, hJ⟩ : ∃ J, J = j := ⟨_, rfl⟩
       obtain ⟨j0, j1, j2, vj, jcols, vn, jcmds⟩ := j
       replace hvj : vj = .slice adj jcols.length capj := hvj
       replace hvn : vn = .slice adn jcmds.length capn := hvn
       have HJ : Hid (J.cells = [.int .i64 j0, .int .i64 j1, .int .i64 j2, .slice adj jcols.length capj, .slice adn jcmds.length capn]) := by rw [hJ, hvj, hvn]; rfl
       rw [← hJ] at hj hjo ⊢
       rw [show J.cells = _ from HJ.out]
       clear hJ hvj hvn
       obtain ⟨njc, hnjc⟩ : ∃ nc, jcols.length = nc := ⟨_, rfl⟩
       obtain ⟨njm, hnjm⟩ : ∃ nm, jcmds.length = nm := ⟨_, rfl⟩
       rw [hnjc, hnjm] at HJ ⊢
       clear hnjc hnjm
       have X4 := hid'' hb4
       have X5 := hid'' (hb4.alloc hb4.size (.cells #[.int .i64 j0, .int .i64 j1, .int .i64 j2, .slice adj njc capj, .slice adn njm capn] 27))
       have HY5 := hid'' (blk_new w4 27 #[.int .i64 j0, .int .i64 j1, .int .i64 j2, .slice adj njc capj, .slice adn njm capn])
       clear hb4)
    | (go_at_call 9; refine (kcp.out _ X5.out).mono ?_; rintro e w5 ⟨⟨ad5, cap5, rfl, ho5⟩, hb5⟩
       have Y5 := hid'' hb5
       have X55 := hid'' (X5.out.trans (hb5.mono X5.out.size))
       clear hb5)
    | (at_builtin; refine wpList_push _ rfl (.tmp 48) (.tmp 50) 32 rfl (w4.alloc (.cells #[.int .i64 j0, .int .i64 j1, .int .i64 j2, .slice adj njc capj, .slice adn njm capn] 27)).heap.size 5 _ 1 1 Tryz.underlying32 infoByte rfl (by decide) bf bf_len (EP.icon I) y L HL.out rfl (ho5.out.alloc _) _ rfl (new_cells _ _ _) (bf_one _) (by omega) (by omega) (by have := Y5.out.size; simp at this ⊢; omega) ?_
       intro ad6 cap6 w6 hown6 hg6
       have hlt6 : ∀ x, ad5 = some x → (w4.alloc (.cells #[.int .i64 j0, .int .i64 j1, .int .i64 j2, .slice adj njc capj, .slice adn njm capn] 27)).heap.size ≤ x.block := fun x hx => (ho5.out.lt x hx).1
       have HO6 := hid'' hown6
       have Z6 := hid'' (below_grown ((Y5.out.alloc Y5.out.size (.cells #[.int .u8 (y : Int)] 5))) hg6 (by have := Y5.out.size; simp at this ⊢; omega) hlt6)
       have X6 := hid'' (X5.out.trans (Z6.out.mono X5.out.size))
       have hcap6 : L + 1 ≤ cap6 := by
         have := HO6.out
         unfold Own at this
         have hl6 : (EP.icon I ++ [y]).length = L + 1 := by rw [List.length_append, HL.out]; rfl
         rw [hl6] at this
         obtain ⟨_, -, h1, -⟩ := own_at' this (by omega)
         exact h1
       clear hown6 hg6 hlt6
       have u2 : True := trivial)
    | (go_at_call 10; refine (number_any cut (L : Int) _ (by omega) hc1).mono ?_; rintro e w9 ⟨⟨rk, rfl, rk0, rk1⟩, rfl⟩
       obtain ⟨k, rfl⟩ : ∃ k : Nat, rk = (k : Int) := ⟨rk.toNat, by omega⟩
       have hkL : k < L := by omega
       have hsl := slice_bytes (some ⟨g, 0, none⟩) L cap k (by omega)))
  exact bodyPost_ret (v := .bool true) (by simp [results, Tryz.results3, go_sem]) rfl ⟨rfl, B3.out.trans ((X8.out.trans (B13.out.mono X8.out.size)).mono B3.out.size)⟩

end Go.Proofs.YtcnlkdoifogkbaaGreatDoor

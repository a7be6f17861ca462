/-
  How an icon's bytes begin: walked over the program.
-/
import Derived.Laws.IdiomStrings
import Derived.Test.YtofmbedjbnbjlaaDoorEncFirst
import Derived.Test.YtofmbedjbnbjlaaDoorIconRow
namespace Go.Proofs.YtofmbedjbnbjlaaDoor
open Go.RowKit

theorem num_one {n : Nat} (h : n < 128) : EP.num (n : Int) = [n] := by
  unfold EP.num
  rw [Int.toNat_natCast]
  exact WP.enc_lt h

/-- The bytes of an icon of few parts. -/
theorem icon_head (W H S : Nat) (vc vm : Value) (cols : List IC.Col) (cmds : List IC.Cmd) (hW : W < 128) (hH : H < 128) (hS : S < 128) (hc : cols.length < 128) (hm : cmds.length < 128) :
    EP.icon ⟨W, H, S, vc, cols, vm, cmds⟩ = [71, 76, 89, 49, W, H, S, cols.length] ++ (cols.flatMap EP.col ++ (cmds.length :: cmds.flatMap EP.cmd)) := by
  unfold EP.icon
  rw [num_one hW, num_one hH, num_one hS, num_one hc, num_one hm]
  simp

theorem cols_len (cols : List IC.Col) : (cols.flatMap EP.col).length = 4 * cols.length := by
  induction cols with
  | nil => rfl
  | cons c r ih => rw [List.flatMap_cons, List.length_append, ih, List.length_cons]; simp [EP.col]; omega

theorem cols_at (cols : List IC.Col) (k : Nat) (hk : k < cols.length) (j : Nat) (hj : j < 4) : (cols.flatMap EP.col)[4 * k + j]? = (EP.col cols[k])[j]? := by
  induction cols generalizing k with
  | nil => simp at hk
  | cons c r ih =>
    rw [List.flatMap_cons]
    cases k with
    | zero => rw [List.getElem?_append_left (by simp [EP.col]; omega)]; simp
    | succ k =>
      rw [List.getElem?_append_right (by simp [EP.col]; omega), List.getElem_cons_succ, ← ih k (by simpa using hk)]
      congr 1
      simp [EP.col]
      omega

/-- What lies where in such bytes. -/
theorem head_at (W H S : Nat) (vc vm : Value) (cols : List IC.Col) (cmds : List IC.Cmd) (hW : W < 128) (hH : H < 128) (hS : S < 128) (hc : cols.length < 128) (hm : cmds.length < 128) (full : List Nat) (hF : EP.icon ⟨W, H, S, vc, cols, vm, cmds⟩ = full) :
    (8 + 4 * cols.length + 1 ≤ full.length) ∧ (full[0]? = some 71 ∧ full[1]? = some 76 ∧ full[2]? = some 89 ∧ full[3]? = some 49 ∧ full[4]? = some W ∧ full[5]? = some H ∧ full[6]? = some S ∧ full[7]? = some cols.length) ∧ full[8 + 4 * cols.length]? = some cmds.length ∧
      ∀ k (hk : k < cols.length), full[8 + 4 * k]? = some cols[k].r.toNat ∧ full[9 + 4 * k]? = some cols[k].g.toNat ∧ full[10 + 4 * k]? = some cols[k].b.toNat ∧ full[11 + 4 * k]? = some cols[k].a.toNat := by
  rw [icon_head W H S vc vm cols cmds hW hH hS hc hm] at hF
  subst hF
  have e8 : ∀ j, ([71, 76, 89, 49, W, H, S, cols.length] ++ (cols.flatMap EP.col ++ (cmds.length :: cmds.flatMap EP.cmd)))[8 + j]? = (cols.flatMap EP.col ++ (cmds.length :: cmds.flatMap EP.cmd))[j]? := fun j => by
    rw [List.getElem?_append_right (by simp)]
    simp
  refine ⟨?_, ⟨rfl, rfl, rfl, rfl, rfl, rfl, rfl, rfl⟩, ?_, fun k hk => ?_⟩
  · rw [List.length_append, List.length_append, cols_len]
    simp
    omega
  · rw [e8, List.getElem?_append_right (by rw [cols_len]; omega), cols_len]
    simp
  · have hl : ∀ j, j < 4 → (cols.flatMap EP.col ++ (cmds.length :: cmds.flatMap EP.cmd))[4 * k + j]? = (EP.col cols[k])[j]? := fun j hj => by
      rw [List.getElem?_append_left (by rw [cols_len]; omega)]
      exact cols_at cols k hk j hj
    refine ⟨?_, ?_, ?_, ?_⟩
    · rw [e8]; exact hl 0 (by omega)
    · rw [show 9 + 4 * k = 8 + (4 * k + 1) by omega, e8]; exact hl 1 (by omega)
    · rw [show 10 + 4 * k = 8 + (4 * k + 2) by omega, e8]; exact hl 2 (by omega)
    · rw [show 11 + 4 * k = 8 + (4 * k + 3) by omega, e8]; exact hl 3 (by omega)

/-- The mark, as a string. -/
theorem mark_string (w : World) (g cap : Nat) (h0 : w.cell? ⟨g, 0, none⟩ = some (.int .u8 71)) (h1 : w.cell? ⟨g, 1, none⟩ = some (.int .u8 76)) (h2 : w.cell? ⟨g, 2, none⟩ = some (.int .u8 89)) (h3 : w.cell? ⟨g, 3, none⟩ = some (.int .u8 49)) :
    (convert 33 9 (.slice (some ⟨g, 0, none⟩) 4 cap)).run Tryd.prog w = .ok (.string ⟨#[71, 76, 89, 49]⟩) w := by
  refine run_convert_bytes_back (P := Tryd.prog) w 33 9 5 ⟨g, 0, none⟩ cap [71, 76, 89, 49] Tryd.underlying33 Tryd.underlying5 Tryd.underlying9 (fun j hj => ?_)
  have hj' : j = 0 ∨ j = 1 ∨ j = 2 ∨ j = 3 := by simp at hj; omega
  rw [Addr.add_lit, Nat.zero_add]
  rcases hj' with rfl | rfl | rfl | rfl
  · exact h0
  · exact h1
  · exact h2
  · exact h3

theorem own_byte {w : World} {B g n cap j v : Nat} {full : List Nat} (h : w.ownsRow B 5 1 (.slice (some ⟨g, 0, none⟩) n cap) n (vals full)) (hn : full.length = n) (hj : full[j]? = some v) : w.cell? ⟨g, j, none⟩ = some (.int .u8 (v : Int)) := by
  have hlt := (List.getElem?_eq_some_iff.1 hj).1
  rw [World.ownsRow.cellAt h j (by omega)]
  simp [vals, hj]

theorem own_at {w : World} {B n cap : Nat} {ad : Option Addr} {xs : List Value} (h : w.ownsRow B 5 1 (.slice ad n cap) n xs) (hn : 0 < n) : ∃ g, ad = some ⟨g, 0, none⟩ ∧ n ≤ cap ∧ cap ≤ maxLen ∧ g < w.heap.size := by
  rcases h.2 with ⟨_, h2⟩ | ⟨g, c, cur, h1, _, h3, h4, h5, _⟩
  · omega
  · cases h1
    exact ⟨g, rfl, h4, h5, (Array.getElem?_eq_some_iff.1 h3).1⟩

theorem slice_bytes (a : Option Addr) (n cap k : Nat) (hk : k ≤ cap) (W : World) : (Instr.slice 33 (.slice a n cap) none (some (.int .i64 (k : Int))) none).run Tryd.prog W = .ok (.slice a k cap) W := by
  rw [run_slice_h (P := Tryd.prog) W 33 a n cap (by kernel_rfl) .i64 (k : Int) (by omega) (by omega)]
  have e : (sizeOf (Tryd.prog.elem 33)).run Tryd.prog W = .ok 1 W := by simp [go_sem]
  have e2 : (a.map fun x => x.add 0) = a := by cases a <;> simp [Addr.add]
  rw [e]
  simp [Result.andThen, sliced, e2]

set_option maxRecDepth 100000 in
set_option maxHeartbeats 4000000 in
theorem eheads_long (A : Nat → Addr) (a : Option Addr) (len cap : Nat) (w : World) (hE : Errs3 w A) (hl : 200 < len) (hm : len ≤ 9223372036854775807) :
    Calls Tryd.prog 6 #[.slice a len cap] w fun e w' => e = .returned (.bool true) ∧ Below w.heap.size w w' := by
  have kf : Hid (∀ W, Below w.heap.size w W → Calls Tryd.prog 9 #[] W fun e w' => e = .returned (.bool true) ∧ Below W.heap.size W w') := fun W hb => efirst_any A W (hE.below hb)
  clear hE
  have hli : (200 : Int) < (len : Int) := by omega
  go_enter Tryd.func6, Tryd.ntmps6
  go_wp2_with (go_at_call 9; refine (kf.out _ (Below.refl _ _)).mono ?_; rintro e w1 ⟨rfl, hb1⟩)
  go_ret
  exact ⟨rfl, hb1⟩

set_option maxRecDepth 100000 in
set_option maxHeartbeats 4000000 in
theorem eheads_any (A : Nat → Addr) (a : Option Addr) (len cap : Nat) (zs : List Int) (w : World) (hE : Errs3 w A) (hl : len ≤ 200) (hr : IsRow .i64 w a len cap zs) :
    Calls Tryd.prog 6 #[.slice a len cap] w fun e w' => e = .returned (.bool true) ∧ Below w.heap.size w w' := by
  have kf : Hid (∀ W, Below w.heap.size w W → Calls Tryd.prog 9 #[] W fun e w' => e = .returned (.bool true) ∧ Below W.heap.size W w') := fun W hb => efirst_any A W (hE.below hb)
  have ki : Hid (∀ W, Below w.heap.size w W → Calls Tryd.prog 10 #[.pointer (some ⟨W.heap.size, 0, none⟩)] (W.alloc (.cells #[.slice a len cap, .int .i64 0] 26)) fun e w' => (∃ i : IC.Icon, e = .returned (.agg i.cells.toArray) ∧ Good i ∧ IconOk w' i) ∧ Below W.heap.size W w') := fun W hb => icon_row hr hb
  have HE : Hid (Errs3 w A) := hE
  have hli : ¬ (200 : Int) < (len : Int) := by omega
  clear hE hr
  go_enter Tryd.func6, Tryd.ntmps6
  go_wp2_with (first
    | (go_at_call 9; refine (kf.out _ (Below.refl _ _)).mono ?_; rintro e w1 ⟨rfl, hb1⟩; have B1 : Hid (Below w.heap.size w w1) := hb1; clear hb1)
    | (go_at_call 10; refine (ki.out _ B1.out).mono ?_; rintro e w2 ⟨⟨i, rfl, hgood, hok⟩, hb2⟩
       have B2 : Hid (Below w.heap.size w w2) := chain B1.out hb2
       have HCH : Hid (IC.chk i = 0) := hgood.chk
       have HCO : Hid (∀ c ∈ i.cols, ColIn c) := hgood.cols
       have HOK : Hid (IconOk w2 i) := hok
       have KB : Hid (∀ W, Below w2.heap.size w2 W → Calls Tryd.prog 12 #[.agg i.cells.toArray] W fun e w' => (∃ ad cap, e = .returned (.tuple #[.slice ad (EP.icon i).length cap, .nilIface]) ∧ w'.ownsRow W.heap.size 5 1 (.slice ad (EP.icon i).length cap) (EP.icon i).length (vals (EP.icon i))) ∧ Below W.heap.size W w') := fun W hb => bytes_ok A i W (HE.out.below (chain B2.out hb)) (hok.below hb) hgood.cols hgood.chk
       obtain ⟨g0, g1, g2, -, g4, -, -, -⟩ := hgood
       obtain ⟨adc, capc, hvc, hc1, hc2⟩ := Many.len hok.1
       obtain ⟨adm, capm, hvm, -, -⟩ := Many.len hok.2.1
       obtain ⟨a0, a1, a2, vc, cols, vm, cmds⟩ := i
       replace hvc : vc = .slice adc cols.length capc := hvc
       replace hvm : vm = .slice adm cmds.length capm := hvm
       replace g0 : 1 ≤ a0 ∧ a0 ≤ 24 := g0
       replace g1 : 1 ≤ a1 ∧ a1 ≤ 24 := g1
       replace g2 : 0 ≤ a2 ∧ a2 ≤ 6 := g2
       replace g4 : cols.length ≤ 2 * cmds.length ∧ cmds.length ≤ 4 := g4
       obtain ⟨W, rfl⟩ : ∃ W : Nat, a0 = (W : Int) := ⟨a0.toNat, by omega⟩
       obtain ⟨H, rfl⟩ : ∃ H : Nat, a1 = (H : Int) := ⟨a1.toNat, by omega⟩
       obtain ⟨S, rfl⟩ : ∃ S : Nat, a2 = (S : Int) := ⟨a2.toNat, by omega⟩
       have HHD : Hid (∀ full, EP.icon ⟨W, H, S, vc, cols, vm, cmds⟩ = full → _) := fun full hF => head_at W H S vc vm cols cmds (by omega) (by omega) (by omega) (by omega) (by omega) full hF
       have HCM : Hid (Many w2 63 4 IC.Col.cells vc cols) := hok.1
       obtain ⟨full, hF⟩ : ∃ full, EP.icon ⟨W, H, S, vc, cols, vm, cmds⟩ = full := ⟨_, rfl⟩
       rw [hF] at KB
       obtain ⟨F1, F2, F3, F4⟩ := HHD.out full hF
       obtain ⟨nc, hnc⟩ : ∃ nc, cols.length = nc := ⟨_, rfl⟩
       obtain ⟨nm, hnm⟩ : ∃ nm, cmds.length = nm := ⟨_, rfl⟩
       have HNC : Hid (cols.length = nc) := hnc
       rw [hnc] at hvc F1 F2 F3 g4
       rw [hnm] at hvm F3 g4
       subst hvc
       subst hvm
       have HF2 := hid' F2
       have HF3 := hid' F3
       have HF4 := hid' F4
       obtain ⟨L, hL⟩ : ∃ L, full.length = L := ⟨_, rfl⟩
       have HL : Hid (full.length = L) := hL
       rw [hL] at F1 KB
       clear hb2 hok F2 F3 F4 hF hL hnc hnm HHD
       simp only [IC.Icon.cells] at KB ⊢)
    | (go_at_call 12; refine (KB.out _ ((Below.refl _ _).alloc (Nat.le_refl _) _)).mono ?_; rintro e w3 ⟨⟨ad3, cap3, rfl, hown3⟩, hb3⟩
       have B3 : Hid (Below w.heap.size w w3) := (B2.out.alloc B2.out.size _).trans (hb3.mono (by simp; have := B2.out.size; omega))
       have HC3 : Hid (Many w3 63 4 IC.Col.cells (.slice adc nc capc) cols) := Row.below (Row.below HCM.out ((Below.refl _ _).alloc (Nat.le_refl _) _)) hb3
       have hX3 : Blk w3 w2.heap.size 30 #[.int .i64 W, .int .i64 H, .int .i64 S, .slice adc nc capc, .slice adm nm capm] := (blk_new w2 30 _).below hb3 (by simp)
       obtain ⟨x0, x1, x2, x3, x4⟩ := five_cells hX3
       obtain ⟨g, rfl, hgL, hgM, hgw⟩ := own_at hown3 (by omega)
       unfold maxLen at hgM
       have HO3 := hid' hown3
       have HX3 := hid' hX3
       have zx := hX3.lt
       clear hb3 hown3 hX3))
  obtain ⟨n9, hn9⟩ : ∃ n9 : Nat, 8 + 4 * (nc : Int) + 1 = (n9 : Int) := ⟨8 + 4 * nc + 1, by omega⟩
  obtain ⟨n8, hn8⟩ : ∃ n8 : Nat, (n9 : Int) - 1 = (n8 : Int) := ⟨8 + 4 * nc, by omega⟩
  have hn8' : 8 + 4 * nc = n8 := by omega
  have hLn : decide (L < n9) = false := decide_eq_false (by omega)
  have hn8L : n8 < L := by omega
  obtain ⟨q0, q1, q2, q3, q4, q5, q6, q7⟩ := HF2.out
  have b0 := own_byte HO3.out HL.out q0
  have b1 := own_byte HO3.out HL.out q1
  have b2 := own_byte HO3.out HL.out q2
  have b3 := own_byte HO3.out HL.out q3
  have b4 := own_byte HO3.out HL.out q4
  have b5 := own_byte HO3.out HL.out q5
  have b6 := own_byte HO3.out HL.out q6
  have b7 := own_byte HO3.out HL.out q7
  have b8 : w3.cell? ⟨g, n8, none⟩ = some (.int .u8 (nm : Int)) := by rw [← hn8']; exact own_byte HO3.out HL.out HF3.out
  have hmk : ∀ d, (convert 33 9 (.slice (some ⟨g, 0, none⟩) 4 cap3)).run Tryd.prog (w3.drewN d) = .ok (.string ⟨#[71, 76, 89, 49]⟩) (w3.drewN d) := fun d => mark_string (w3.drewN d) g cap3 b0 b1 b2 b3
  have hs4 : ∀ W, (Instr.slice 33 (.slice (some ⟨g, 0, none⟩) L cap3) none (some (.int .i64 4)) none).run Tryd.prog W = .ok (.slice (some ⟨g, 0, none⟩) 4 cap3) W := fun W => slice_bytes _ L cap3 4 (by omega) W
  have wb1 : W ≤ 24 := by omega
  have wb2 : H ≤ 24 := by omega
  have wb3 : S ≤ 6 := by omega
  have wb4 : nc ≤ 8 := by omega
  have wb5 : nm ≤ 4 := by omega
  have L7 : 7 < L := by omega
  clear q0 q1 q2 q3 q4 q5 q6 q7 HF2 HF3 hn8'
  go_wp2
  go_quiet (fail)
  go_wp2
  have HB0 : Hid (Below w3.heap.size w3 (w3.drewN nq)) := below_drewN (Below.refl _ _) _
  clear b0 b1 b2 b3 b4 b5 b6 b7 b8 x0 x1 x2 x3 x4 hmk hs4 hLn hn8 hn9
  go_loopw [8] (fun i wr => ∃ k : Nat, k ≤ nc ∧ i = .int .i64 k ∧ Hid (Below w3.heap.size w3 wr)) (fun i _ => nc - (intOf i).toNat)
  case atStart => exact ⟨0, by omega, rfl, HB0⟩
  case round =>
    clear HB0
    obtain ⟨k, hk, rfl, HB⟩ := hrel
    have hsz : w3.heap.size ≤ wr.heap.size := HB.out.size
    have hgr : g < wr.heap.size := by omega
    have hxr : w2.heap.size < wr.heap.size := by omega
    have hXr : Blk wr w2.heap.size 30 #[.int .i64 W, .int .i64 H, .int .i64 S, .slice adc nc capc, .slice adm nm capm] := HX3.out.below HB.out zx
    obtain ⟨x0, x1, x2, x3, x4⟩ := five_cells hXr
    clear hXr
    by_cases hkn : k < nc
    · have hks : k < cols.length := by rw [HNC.out]; exact hkn
      have hcr : Many wr 63 4 IC.Col.cells (.slice adc nc capc) cols := Row.below HC3.out HB.out
      obtain ⟨gc, oc, cap4, hv', hgc, -, -, hcc⟩ := hcr.at col_len k hks
      obtain ⟨rfl, -⟩ : adc = some ⟨gc, oc, none⟩ ∧ _ := by simpa using hv'
      clear hv' hcr
      obtain ⟨f0, f1, f2, f3⟩ := HF4.out k hks
      obtain ⟨⟨i0, i0'⟩, ⟨i1, i1'⟩, ⟨i2, i2'⟩, ⟨i3, i3'⟩⟩ := HCO.out cols[k] (List.getElem_mem hks)
      obtain ⟨c, hc⟩ : ∃ c, cols[k] = c := ⟨_, rfl⟩
      rw [hc] at hcc f0 f1 f2 f3 i0 i0' i1 i1' i2 i2' i3 i3'
      obtain ⟨cr, cg, cb, ca⟩ := c
      simp only at f0 f1 f2 f3 i0 i0' i1 i1' i2 i2' i3 i3'
      obtain ⟨CR, rfl⟩ : ∃ R : Nat, cr = (R : Int) := ⟨cr.toNat, by omega⟩
      obtain ⟨CG, rfl⟩ : ∃ R : Nat, cg = (R : Int) := ⟨cg.toNat, by omega⟩
      obtain ⟨CB, rfl⟩ : ∃ R : Nat, cb = (R : Int) := ⟨cb.toNat, by omega⟩
      obtain ⟨CA, rfl⟩ : ∃ R : Nat, ca = (R : Int) := ⟨ca.toNat, by omega⟩
      rw [Int.toNat_natCast] at f0 f1 f2 f3
      obtain ⟨p8, hp8⟩ : ∃ p : Nat, 8 + 4 * (k : Int) = (p : Int) := ⟨8 + 4 * k, by omega⟩
      obtain ⟨p9, hp9⟩ : ∃ p : Nat, 9 + 4 * (k : Int) = (p : Int) := ⟨9 + 4 * k, by omega⟩
      obtain ⟨p10, hp10⟩ : ∃ p : Nat, 10 + 4 * (k : Int) = (p : Int) := ⟨10 + 4 * k, by omega⟩
      obtain ⟨p11, hp11⟩ : ∃ p : Nat, 11 + 4 * (k : Int) = (p : Int) := ⟨11 + 4 * k, by omega⟩
      have e8 : wr.cell? ⟨g, p8, none⟩ = some (.int .u8 (CR : Int)) := by rw [HB.out.cell (p := ⟨g, p8, none⟩) hgw, show p8 = 8 + 4 * k by omega]; exact own_byte HO3.out HL.out f0
      have e9 : wr.cell? ⟨g, p9, none⟩ = some (.int .u8 (CG : Int)) := by rw [HB.out.cell (p := ⟨g, p9, none⟩) hgw, show p9 = 9 + 4 * k by omega]; exact own_byte HO3.out HL.out f1
      have e10 : wr.cell? ⟨g, p10, none⟩ = some (.int .u8 (CB : Int)) := by rw [HB.out.cell (p := ⟨g, p10, none⟩) hgw, show p10 = 10 + 4 * k by omega]; exact own_byte HO3.out HL.out f2
      have e11 : wr.cell? ⟨g, p11, none⟩ = some (.int .u8 (CA : Int)) := by rw [HB.out.cell (p := ⟨g, p11, none⟩) hgw, show p11 = 11 + 4 * k by omega]; exact own_byte HO3.out HL.out f3
      have l8 : p8 < L := by omega
      have l9 : p9 < L := by omega
      have l10 : p10 < L := by omega
      have l11 : p11 < L := by omega
      have d0 : wr.cell? ⟨gc, oc + k * 4, none⟩ = some (.int .u8 (CR : Int)) := hcc 0 _ rfl
      have d1 : wr.cell? ⟨gc, oc + k * 4 + 1, none⟩ = some (.int .u8 (CG : Int)) := hcc 1 _ rfl
      have d2 : wr.cell? ⟨gc, oc + k * 4 + 2, none⟩ = some (.int .u8 (CB : Int)) := hcc 2 _ rfl
      have d3 : wr.cell? ⟨gc, oc + k * 4 + 3, none⟩ = some (.int .u8 (CA : Int)) := hcc 3 _ rfl
      have ks : Hid (∀ W, Calls Tryd.prog 21 #[.agg #[.int .u8 (CR : Int), .int .u8 (CG : Int), .int .u8 (CB : Int), .int .u8 (CA : Int)], .agg #[.int .u8 (CR : Int), .int .u8 (CG : Int), .int .u8 (CB : Int), .int .u8 (CA : Int)]] W fun e w' => e = .returned (.bool true) ∧ Below W.heap.size W w') := fun W => by
        have := samecol_any ⟨CR, CG, CB, CA⟩ ⟨CR, CG, CB, CA⟩ W
        have e : IC.sameCol ⟨CR, CG, CB, CA⟩ ⟨CR, CG, CB, CA⟩ = true := by simp [IC.sameCol]
        rw [e] at this
        exact this
      have v0 : wrap64 (4 * (k : Int)) = 4 * (k : Int) := by unfold wrap64; omega
      have v8 : wrap64 (8 + 4 * (k : Int)) = (p8 : Int) := by unfold wrap64; omega
      have v9 : wrap64 (9 + 4 * (k : Int)) = (p9 : Int) := by unfold wrap64; omega
      have v10 : wrap64 (10 + 4 * (k : Int)) = (p10 : Int) := by unfold wrap64; omega
      have v11 : wrap64 (11 + 4 * (k : Int)) = (p11 : Int) := by unfold wrap64; omega
      have t0 : IntKind.i64.wrap (4 * (k : Int)) = 4 * (k : Int) := (IntWalk.i64_left _).trans v0
      have t8 : IntKind.i64.wrap (8 + 4 * (k : Int)) = (p8 : Int) := (IntWalk.i64_left _).trans v8
      have t9 : IntKind.i64.wrap (9 + 4 * (k : Int)) = (p9 : Int) := (IntWalk.i64_left _).trans v9
      have t10 : IntKind.i64.wrap (10 + 4 * (k : Int)) = (p10 : Int) := (IntWalk.i64_left _).trans v10
      have t11 : IntKind.i64.wrap (11 + 4 * (k : Int)) = (p11 : Int) := (IntWalk.i64_left _).trans v11
      have s8 : IntKind.i64.wrap (p8 : Int) = (p8 : Int) := IntWalk.i64_in _ (by omega)
      have li8 : (p8 : Int) < (L : Int) := by omega
      have lo8 : (0 : Int) ≤ (p8 : Int) := by omega
      have s9 : IntKind.i64.wrap (p9 : Int) = (p9 : Int) := IntWalk.i64_in _ (by omega)
      have li9 : (p9 : Int) < (L : Int) := by omega
      have lo9 : (0 : Int) ≤ (p9 : Int) := by omega
      have s10 : IntKind.i64.wrap (p10 : Int) = (p10 : Int) := IntWalk.i64_in _ (by omega)
      have li10 : (p10 : Int) < (L : Int) := by omega
      have lo10 : (0 : Int) ≤ (p10 : Int) := by omega
      have s11 : IntKind.i64.wrap (p11 : Int) = (p11 : Int) := IntWalk.i64_in _ (by omega)
      have li11 : (p11 : Int) < (L : Int) := by omega
      have lo11 : (0 : Int) ≤ (p11 : Int) := by omega
      have hLi : (L : Int) ≤ 9223372036854775807 := by omega
      clear hcc f0 f1 f2 f3 hc i0 i0' i1 i1' i2 i2' i3 i3'
      go_wp2
      have HK : Hid (∀ W', Below wr.heap.size wr W' → W'.cell? ⟨g, p8, none⟩ = some (.int .u8 (CR : Int)) ∧ W'.cell? ⟨g, p9, none⟩ = some (.int .u8 (CG : Int)) ∧ W'.cell? ⟨g, p10, none⟩ = some (.int .u8 (CB : Int)) ∧ W'.cell? ⟨g, p11, none⟩ = some (.int .u8 (CA : Int))) := fun W' hb => ⟨(hb.cell (p := ⟨g, p8, none⟩) hgr).trans e8, (hb.cell (p := ⟨g, p9, none⟩) hgr).trans e9, (hb.cell (p := ⟨g, p10, none⟩) hgr).trans e10, (hb.cell (p := ⟨g, p11, none⟩) hgr).trans e11⟩
      go_region_held3 (fun W => W.cell? ⟨g, p8, none⟩ = some (.int .u8 (CR : Int)) ∧ W.cell? ⟨g, p9, none⟩ = some (.int .u8 (CG : Int)) ∧ W.cell? ⟨g, p10, none⟩ = some (.int .u8 (CB : Int)) ∧ W.cell? ⟨g, p11, none⟩ = some (.int .u8 (CA : Int)))
        (first
          | exact HK.out _ (((Below.refl _ _).alloc (Nat.le_refl _) _).drew)
          | exact HK.out _ (((Below.refl _ _).drew).alloc (Nat.le_refl _) _)
          | exact HK.out _ (((((((Below.refl _ _).alloc (Nat.le_refl _) _).drew).setCell (Nat.le_refl _) _).setCell (Nat.le_refl _) _).setCell (Nat.le_refl _) _).setCell (Nat.le_refl _) _)
          | exact HK.out _ (((((((Below.refl _ _).drew).alloc (Nat.le_refl _) _).setCell (Nat.le_refl _) _).setCell (Nat.le_refl _) _).setCell (Nat.le_refl _) _).setCell (Nat.le_refl _) _)
          | exact HK.out _ ((Below.refl _ _).drew))
        (fail)
      all_goals
        rename_i hS
        clear hS
        go_wp2
        obtain ⟨W5, hW5⟩ : ∃ W5, (wr.alloc (.cells #[.int .u8 (CR : Int), .int .u8 (CG : Int), .int .u8 (CB : Int), .int .u8 (CA : Int)] 63)).drew = W5 := ⟨_, rfl⟩
        have hB5 : Below wr.heap.size wr W5 := by rw [← hW5]; exact ((Below.refl _ _).alloc (Nat.le_refl _) _).drew
        have hN5 : Blk W5 wr.heap.size 63 #[.int .u8 (CR : Int), .int .u8 (CG : Int), .int .u8 (CB : Int), .int .u8 (CA : Int)] := by rw [← hW5]; exact blk_new wr 63 _
        obtain ⟨⟨n0, n1, n2, n3⟩, -⟩ := cells_four hN5
        have z5 := hN5.lt
        have zc5 : gc < W5.heap.size := by have := hB5.size; omega
        have zi5 : w2.heap.size < W5.heap.size := by have := hB5.size; omega
        have y3 := (hB5.cell (p := ⟨w2.heap.size, 3, none⟩) hxr).trans x3
        have j0 := (hB5.cell (p := ⟨gc, oc + k * 4, none⟩) hgc).trans d0
        have j1 := (hB5.cell (p := ⟨gc, oc + k * 4 + 1, none⟩) hgc).trans d1
        have j2 := (hB5.cell (p := ⟨gc, oc + k * 4 + 2, none⟩) hgc).trans d2
        have j3 := (hB5.cell (p := ⟨gc, oc + k * 4 + 3, none⟩) hgc).trans d3
        have HB5 : Hid (Below w3.heap.size w3 W5) := HB.out.trans (hB5.mono hsz)
        rw [hW5]
        have G0 := Grown.cell z5 n0
        have G1 := Grown.cell z5 n1
        have G2 := Grown.cell z5 n2
        have G3 := Grown.cell z5 n3
        have G4 := Grown.cell zi5 y3
        have G5 := Grown.cell zc5 j0
        have G6 := Grown.cell zc5 j1
        have G7 := Grown.cell zc5 j2
        have G8 := Grown.cell zc5 j3
        have hne := Grown.some W5
        clear n0 n1 n2 n3 y3 j0 j1 j2 j3 hN5 hB5 hW5 d0 d1 d2 d3 x0 x1 x2 x3 x4 e8 e9 e10 e11 v0 v8 v9 v10 v11 t0 t8 t9 t10 t11 s8 s9 s10 s11 hp8 hp9 hp10 hp11 li8 li9 li10 li11 lo8 lo9 lo10 lo11
        refine wp_region_grow (by kernel_rfl) (by kernel_rfl) ?_
        repeat (go_big_quiet_step ((go_at_call 21; exact grow_of (ks.out _))))
        refine wpQuiet_nil ?_
        rintro _ ⟨G, rfl⟩
        go_wp2
        go_roundw
        case rel => exact ⟨k + 1, by omega, by go_num, HB5.out.trans (G.below.mono HB5.out.size)⟩
        case measure => simp [intOf]; omega
    · obtain rfl : k = nc := by omega
      go_wp2
      go_ret
      exact ⟨rfl, chain B3.out HB.out⟩

end Go.Proofs.YtofmbedjbnbjlaaDoor

import Derived.Test.YtcnlkdoifogkbaaGreatDoorDecColB
import Derived.Test.YtcnlkdoifogkbaaGreatDoorDecCol3
/-
  A reader reads a color: its four bytes are not there: walked over the program.
-/
namespace Go.Proofs.YtcnlkdoifogkbaaGreatDoor
open Go.RowKit

set_option maxRecDepth 20000 in
set_option maxHeartbeats 4000000 in
theorem dcol1 (x : Src) (q : Nat) (s : DP.St) (w : World) (h : Rd x q w s) (_hc : s.cols.length < 256) (_hcap : x.bs.length ≤ x.cap) (g o : Nat) (hao : x.ao = some ⟨g, o, none⟩) (_hgq : g < q) (hsh : x.bs.length < s.at' + 4) :
    Calls Tryz.prog 59 #[.pointer (some ⟨q, 0, none⟩)] w fun e w' => ∃ c : IC.Col, e = .returned (.agg c.cells.toArray) ∧ ColPost x q w (DP.col x.bs s) c w' := by
  have hat := h.fit.at'
  have hlen := h.base.len
  have c0 : w.cell? ⟨q, 0, none⟩ = some (.slice (some ⟨g, o, none⟩) x.bs.length x.cap) := by rw [← hao]; exact h.blk.cell 0
  have c1 : w.cell? ⟨q, 1, none⟩ = some (.int .i64 s.at') := h.blk.cell 1
  have hq := h.lt
  have HR := hid'' h
  obtain ⟨L, hL⟩ : ∃ L, x.bs.length = L := ⟨_, rfl⟩
  rw [hL] at c0 hat hlen _hcap hsh
  obtain ⟨T, hT⟩ : ∃ T, s.at' = T := ⟨_, rfl⟩
  rw [hT] at c1 hat hsh
  clear h
  have HS : Hid (x.bs.length = L ∧ s.at' = T ∧ x.ao = some ⟨g, o, none⟩) := ⟨hL, hT, hao⟩
  have HCOL : Hid (DP.col x.bs s = .error (DP.eShort, T)) := by
    show DP.col _ _ = _
    unfold DP.col
    rw [hL, hT, if_pos hsh]
  have kf : Hid (∀ W, Rd x q W s → Calls Tryz.prog 81 #[.pointer (some ⟨q, 0, none⟩), .int .i64 T, .iface 173 (.pointer (some (x.A (perm 6))))] W fun e w' => e = .returned (.tuple #[]) ∧ Rx x q w' (6, T) ∧ Mk q W w') := fun W hW => fail_ok x q s T 6 (by omega) W hW
  have hsl : ((L - T : Nat) : Int) < 4 := by omega
  obtain ⟨AP, hAP⟩ : ∃ AP, (if x.cap = T then some (⟨g, o, none⟩ : Addr) else some ⟨g, o + T, none⟩) = AP := ⟨_, rfl⟩
  clear hL hT hao
  go_enter Tryz.func59, Tryz.ntmps59
  go_wp2
  go_region
  obtain ⟨w3, hw3⟩ : ∃ w3, (w.alloc (.cells #[.int .u8 0, .int .u8 0, .int .u8 0, .int .u8 0] 66)).drew = w3 := ⟨_, rfl⟩
  have S3 : Hid (Rd x q w3 s) := by rw [← hw3]; exact HR.out.below ((Below.refl _ _).alloc (Nat.le_refl _) _).drew
  have M3 : Hid (MkC x q w w3) := by rw [← hw3]; exact MkC.of (Mk.below ((Below.refl w.heap.size w).alloc (Nat.le_refl _) _).drew)
  have B3 : Blk w3 w.heap.size 66 #[.int .u8 0, .int .u8 0, .int .u8 0, .int .u8 0] := by rw [← hw3]; exact blk_new w _ _
  have m1 : w3.cell? ⟨q, 1, none⟩ = some (.int .i64 T) := by rw [← HS.out.2.1]; exact S3.out.blk.cell 1
  have eS := S3.out.base.short
  have hq3 := S3.out.lt
  rw [hw3]
  clear hw3 c0 c1
  go_wp2
  go_region_with (first
    | (go_at_call 81; refine (kf.out _ (by first | exact S3.out | exact S3.out.below (Below.refl _ _).drew)).mono ?_; rintro e w4 ⟨rfl, h4, m4'⟩
       have H4 := hid'' h4
       have M4 : Hid (MkC x q w w4) := M3.out.trans ⟨m4'.os, m4'.tape, m4'.output, m4'.size, fun k hk h1 _ => m4'.block k hk (fun e => h1 (by cases e; rfl))⟩
       have B4 : Blk w4 w.heap.size 66 #[.int .u8 0, .int .u8 0, .int .u8 0, .int .u8 0] := by first | exact Blk.mk B3.drew m4' (by omega) | exact Blk.mk B3 m4' (by omega)
       have lt4 := B4.lt
       have x0 := B4.cell 0
       have x1 := B4.cell 1
       have x2 := B4.cell 2
       have x3 := B4.cell 3
       have fx0 := B4.frozen 0
       have fx1 := B4.frozen 1
       have fx2 := B4.frozen 2
       have fx3 := B4.frozen 3
       simp at x0 x1 x2 x3
       clear h4 m4'))
  all_goals go_wp2
  all_goals
    refine bodyPost_ret (v := .agg #[.int .u8 0, .int .u8 0, .int .u8 0, .int .u8 0]) (by simp [results, Tryz.results59, go_sem, B4.got 0 (by simp) (.int .u8 0), (B4.set (j := 0) (.int .u8 0)).got 1 (by simp) (.int .u8 0), ((B4.set (j := 0) (.int .u8 0)).set (j := 1) (.int .u8 0)).got 2 (by simp) (.int .u8 0), (((B4.set (j := 0) (.int .u8 0)).set (j := 1) (.int .u8 0)).set (j := 2) (.int .u8 0)).got 3 (by simp) (.int .u8 0)]) rfl ⟨⟨0, 0, 0, 0⟩, rfl, ?_⟩
    rw [HCOL.out]
    exact ⟨((((M4.out.set (p := ⟨w.heap.size, 0, none⟩) (.inl (Nat.le_refl _)) (.int .u8 0)).set (p := ⟨w.heap.size, 1, none⟩) (.inl (Nat.le_refl _)) (.int .u8 0)).set (p := ⟨w.heap.size, 2, none⟩) (.inl (Nat.le_refl _)) (.int .u8 0)).set (p := ⟨w.heap.size, 3, none⟩) (.inl (Nat.le_refl _)) (.int .u8 0)), ((((H4.out.far (p := ⟨w.heap.size, 0, none⟩) (by show q < w.heap.size; omega) B4 (by decide) (.int .u8 0)).far (p := ⟨w.heap.size, 1, none⟩) (by show q < w.heap.size; omega) (B4.set (j := 0) (.int .u8 0)) (by decide) (.int .u8 0)).far (p := ⟨w.heap.size, 2, none⟩) (by show q < w.heap.size; omega) ((B4.set (j := 0) (.int .u8 0)).set (j := 1) (.int .u8 0)) (by decide) (.int .u8 0)).far (p := ⟨w.heap.size, 3, none⟩) (by show q < w.heap.size; omega) (((B4.set (j := 0) (.int .u8 0)).set (j := 1) (.int .u8 0)).set (j := 2) (.int .u8 0)) (by decide) (.int .u8 0))⟩

end Go.Proofs.YtcnlkdoifogkbaaGreatDoor

/-
  A reader reads a color: one that is one ahead: walked over the program.
-/
namespace Go.Proofs.YtcnlkdoifogkbaaGreatDoor
open Go.RowKit

set_option maxRecDepth 20000 in
set_option maxHeartbeats 4000000 in
theorem dcol2 (x : Src) (q : Nat) (s : DP.St) (w : World) (h : Rd x q w s) (_hc : s.cols.length < 256) (hcap : x.bs.length ≤ x.cap) (g o : Nat) (hao : x.ao = some ⟨g, o, none⟩) (hgq : g < q) (hsh : ¬ x.bs.length < s.at' + 4) (hany : s.cols.any (IC.sameCol (DP.colAt x.bs s.at')) = true) :
    Calls Tryz.prog 59 #[.pointer (some ⟨q, 0, none⟩)] w fun e w' => ∃ c : IC.Col, e = .returned (.agg c.cells.toArray) ∧ ColPost x q w (DP.col x.bs s) c w' := by
  have hat := h.fit.at'
  have hlen := h.base.len
  have c0 : w.cell? ⟨q, 0, none⟩ = some (.slice (some ⟨g, o, none⟩) x.bs.length x.cap) := by rw [← hao]; exact h.blk.cell 0
  have c1 : w.cell? ⟨q, 1, none⟩ = some (.int .i64 s.at') := h.blk.cell 1
  have hq := h.lt
  have HR := hid'' h
  obtain ⟨L, hL⟩ : ∃ L, x.bs.length = L := ⟨_, rfl⟩
  rw [hL] at c0 hat hlen hcap hsh
  obtain ⟨T, hT⟩ : ∃ T, s.at' = T := ⟨_, rfl⟩
  rw [hT] at c1 hat hsh
  clear h
  have HS : Hid (x.bs.length = L ∧ s.at' = T ∧ x.ao = some ⟨g, o, none⟩) := ⟨hL, hT, hao⟩
  have hcT : ¬ x.cap = T := by omega
  obtain ⟨⟨b0, hb0⟩, ⟨b1, hb1⟩, ⟨b2, hb2⟩, ⟨b3, hb3⟩⟩ : (∃ b, x.bs.getD T 0 = b) ∧ (∃ b, x.bs.getD (T + 1) 0 = b) ∧ (∃ b, x.bs.getD (T + 2) 0 = b) ∧ (∃ b, x.bs.getD (T + 3) 0 = b) := ⟨⟨_, rfl⟩, ⟨_, rfl⟩, ⟨_, rfl⟩, ⟨_, rfl⟩⟩
  have cells : ∀ j, j < L → w.cell? ⟨g, o + j, none⟩ = some (.int .u8 (x.bs.getD j 0 : Nat)) := fun j hj => by
    obtain ⟨b', o', e1, e2, e3⟩ := HR.out.base.byt j (by rw [hL]; exact hj)
    rw [hao] at e1
    cases e1
    rw [e3, List.getD_eq_getElem?_getD, List.getElem?_eq_getElem (by rw [hL]; exact hj)]
    rfl
  have e0 := cells T (by omega)
  have e1 := cells (T + 1) (by omega)
  have e2 := cells (T + 2) (by omega)
  have e3 := cells (T + 3) (by omega)
  rw [hb0] at e0
  rw [hb1, ← Nat.add_assoc] at e1
  rw [hb2, ← Nat.add_assoc] at e2
  rw [hb3, ← Nat.add_assoc] at e3
  have HC : DP.colAt x.bs T = ⟨b0, b1, b2, b3⟩ := by
    unfold DP.colAt
    rw [hb0, hb1, hb2, hb3]
  have hgw : g < w.heap.size := by omega
  rw [hT, HC] at hany
  have hcol : DP.col x.bs s = .error (DP.eCanon, T) := by
    unfold DP.col
    rw [hL, hT, if_neg hsh, HC, hany]
    rfl
  have HCOL := hid'' hcol
  have kc : Hid (∀ W, Below w.heap.size w W → Calls Tryz.prog 76 #[.slice x.adc s.cols.length x.capc, .agg #[.int .u8 b0, .int .u8 b1, .int .u8 b2, .int .u8 b3]] W fun e w' => e = .returned (.bool true) ∧ Below W.heap.size W w') := fun W hW => by
    have := contains_any s.cols _ ⟨b0, b1, b2, b3⟩ W (HR.out.own.below hW (Nat.le_refl _)).many
    rw [hany] at this
    exact this
  obtain ⟨NC, hNC⟩ : ∃ n, s.cols.length = n := ⟨_, rfl⟩
  rw [hNC] at kc
  have HNC := hid'' hNC
  clear cells hb0 hb1 hb2 hb3 hL hT hao hany hcol hNC HC
  go_enter Tryz.func59, Tryz.ntmps59
  go_wp2
  go_region
  go_wp2
  go_region
  obtain ⟨W2, hW2⟩ : ∃ W2, ((w.alloc (.cells #[.int .u8 0, .int .u8 0, .int .u8 0, .int .u8 0] 66)).alloc (.cells #[.int .u8 b0, .int .u8 b1, .int .u8 b2, .int .u8 b3] 66)).drew.drew = W2 := ⟨_, rfl⟩
  have BW2 : Below w.heap.size w W2 := by rw [← hW2]; exact (((Below.refl _ _).alloc (Nat.le_refl _) _).alloc (by simp) _).drew.drew
  have S2 : Hid (Rd x q W2 s) := HR.out.below BW2
  have B2 : Blk W2 w.heap.size 66 #[.int .u8 0, .int .u8 0, .int .u8 0, .int .u8 0] := by rw [← hW2]; exact (two_boxes w _ _ _ _).1
  have C2 : Blk W2 (w.heap.size + 1) 66 #[.int .u8 b0, .int .u8 b1, .int .u8 b2, .int .u8 b3] := by rw [← hW2]; exact (two_boxes w _ _ _ _).2
  have HB2 := hid'' BW2
  rw [hW2]
  have lt2 : w.heap.size + 1 < W2.heap.size := C2.lt
  have k4 : W2.cell? ⟨q, 4, none⟩ = some (.slice x.adc NC x.capc) := by rw [← HNC.out]; exact S2.out.blk.cell 4
  have q4 := Grown.cell S2.out.lt k4
  have q0 := Grown.cell lt2 (show W2.cell? ⟨w.heap.size + 1, 0, none⟩ = some (.int .u8 b0) from C2.cell 0)
  have q1 := Grown.cell lt2 (show W2.cell? ⟨w.heap.size + 1, 1, none⟩ = some (.int .u8 b1) from C2.cell 1)
  have q2 := Grown.cell lt2 (show W2.cell? ⟨w.heap.size + 1, 2, none⟩ = some (.int .u8 b2) from C2.cell 2)
  have q3 := Grown.cell lt2 (show W2.cell? ⟨w.heap.size + 1, 3, none⟩ = some (.int .u8 b3) from C2.cell 3)
  have hne := Grown.some W2
  clear hW2 BW2 e0 e1 e2 e3 c0 c1 k4
  go_upto_region 6 with fail
  refine wp_region_grow (by kernel_rfl) (by kernel_rfl) ?_
  repeat (go_big_quiet_step ((go_at_call 76; exact grow_of (kc.out _ (HB2.out.trans ((Grown.below _).mono HB2.out.size))))))
  refine wpQuiet_nil ?_
  rintro _ ⟨G, rfl⟩
  have HG := hid'' G.below
  clear q0 q1 q2 q3 q4 hne
  obtain ⟨w3, hw3⟩ : ∃ w3, G.w = w3 := ⟨_, rfl⟩
  rw [hw3] at HG
  rw [hw3]
  clear hw3
  have S3 : Hid (Rd x q w3 s) := S2.out.below HG.out
  have B3 := B2.below HG.out (by omega)
  have C3 := C2.below HG.out lt2
  have M3 : Hid (MkC x q w w3) := MkC.of (Mk.below (HB2.out.trans (HG.out.mono HB2.out.size)))
  have lt3 := C3.lt
  have m1 : w3.cell? ⟨q, 1, none⟩ = some (.int .i64 T) := by rw [← HS.out.2.1]; exact S3.out.blk.cell 1
  have hq3 := S3.out.lt
  clear S2 B2 C2
  have eC := S3.out.base.canon
  have kf : Hid (∀ W, Rd x q W s → Calls Tryz.prog 81 #[.pointer (some ⟨q, 0, none⟩), .int .i64 T, .iface 173 (.pointer (some (x.A (perm 9))))] W fun e w' => e = .returned (.tuple #[]) ∧ Rx x q w' (9, T) ∧ Mk q W w') := fun W hW => fail_ok x q s T 9 (by omega) W hW
  go_wp2
  go_region_with (first
    | (go_at_call 81; refine (kf.out _ (by first | exact S3.out | exact S3.out.below (Below.refl _ _).drew)).mono ?_; rintro e w4 ⟨rfl, h4, m4'⟩
       have H4 := hid'' h4
       have M4 : Hid (MkC x q w w4) := M3.out.trans ⟨m4'.os, m4'.tape, m4'.output, m4'.size, fun k hk h1 _ => m4'.block k hk (fun e => h1 (by cases e; rfl))⟩
       have B4 : Blk w4 w.heap.size 66 #[.int .u8 0, .int .u8 0, .int .u8 0, .int .u8 0] := by first | exact Blk.mk B3.drew m4' (by omega) | exact Blk.mk B3 m4' (by omega)
       have lt4 := B4.lt
       have x0 := B4.cell 0
       have x1 := B4.cell 1
       have x2 := B4.cell 2
       have x3 := B4.cell 3
       have fx0 := B4.frozen 0
       have fx1 := B4.frozen 1
       have fx2 := B4.frozen 2
       have fx3 := B4.frozen 3
       simp at x0 x1 x2 x3
       clear h4 m4'))
  all_goals go_wp2
  all_goals
    refine bodyPost_ret (v := .agg #[.int .u8 0, .int .u8 0, .int .u8 0, .int .u8 0]) (by simp [results, Tryz.results59, go_sem, B4.got 0 (by simp) (.int .u8 0), (B4.set (j := 0) (.int .u8 0)).got 1 (by simp) (.int .u8 0), ((B4.set (j := 0) (.int .u8 0)).set (j := 1) (.int .u8 0)).got 2 (by simp) (.int .u8 0), (((B4.set (j := 0) (.int .u8 0)).set (j := 1) (.int .u8 0)).set (j := 2) (.int .u8 0)).got 3 (by simp) (.int .u8 0)]) rfl ⟨⟨0, 0, 0, 0⟩, rfl, ?_⟩
    rw [HCOL.out]
    exact ⟨((((M4.out.set (p := ⟨w.heap.size, 0, none⟩) (.inl (Nat.le_refl _)) (.int .u8 0)).set (p := ⟨w.heap.size, 1, none⟩) (.inl (Nat.le_refl _)) (.int .u8 0)).set (p := ⟨w.heap.size, 2, none⟩) (.inl (Nat.le_refl _)) (.int .u8 0)).set (p := ⟨w.heap.size, 3, none⟩) (.inl (Nat.le_refl _)) (.int .u8 0)), ((((H4.out.far (p := ⟨w.heap.size, 0, none⟩) (by show q < w.heap.size; omega) B4 (by decide) (.int .u8 0)).far (p := ⟨w.heap.size, 1, none⟩) (by show q < w.heap.size; omega) (B4.set (j := 0) (.int .u8 0)) (by decide) (.int .u8 0)).far (p := ⟨w.heap.size, 2, none⟩) (by show q < w.heap.size; omega) ((B4.set (j := 0) (.int .u8 0)).set (j := 1) (.int .u8 0)) (by decide) (.int .u8 0)).far (p := ⟨w.heap.size, 3, none⟩) (by show q < w.heap.size; omega) (((B4.set (j := 0) (.int .u8 0)).set (j := 1) (.int .u8 0)).set (j := 2) (.int .u8 0)) (by decide) (.int .u8 0))⟩

end Go.Proofs.YtcnlkdoifogkbaaGreatDoor

/-
  A reader reads a color: walked over the program.
-/
namespace Go.Proofs.YtcnlkdoifogkbaaGreatDoor
open Go.RowKit

theorem dcol_any (x : Src) (q : Nat) (s : DP.St) (w : World) (h : Rd x q w s) (hc : s.cols.length < 256) (hcap : x.bs.length ≤ x.cap) (hao : ∃ g o, x.ao = some ⟨g, o, none⟩ ∧ g < q) :
    Calls Tryz.prog 59 #[.pointer (some ⟨q, 0, none⟩)] w fun e w' => ∃ c : IC.Col, e = .returned (.agg c.cells.toArray) ∧ ColPost x q w (DP.col x.bs s) c w' := by
  obtain ⟨g, o, hao, hgq⟩ := hao
  by_cases hsh : x.bs.length < s.at' + 4
  · exact dcol1 x q s w h hc hcap g o hao hgq hsh
  · cases hany : s.cols.any (IC.sameCol (DP.colAt x.bs s.at'))
    · exact dcol3 x q s w h hc hcap g o hao hgq hsh hany
    · exact dcol2 x q s w h hc hcap g o hao hgq hsh hany

end Go.Proofs.YtcnlkdoifogkbaaGreatDoor

/-
  A reader reads its colors: walked over the program.
-/
namespace Go.Proofs.YtcnlkdoifogkbaaGreatDoor
open Go.RowKit

def withCols (x : Src) (ad : Option Addr) (cap : Nat) : Src := { x with adc := ad, capc := cap }

/-- What stands while colors are read. -/
structure ColsSt (x : Src) (q n : Nat) (w : World) (s : DP.St) (j : Nat) (acc : List IC.Col) (s' : DP.St) (adc : Option Addr) (capc : Nat) (ad : Option Addr) (cap : Nat) (wr : World) : Prop where
  len : acc.length = j
  eq : DP.list (DP.col x.bs) n [] s = DP.list (DP.col x.bs) (n - j) acc s'
  rd : Rd (withCols x adc capc) q wr s'
  cols : s'.cols.length = s.cols.length + j
  keep : s'.far = s.far ∧ s'.pts = s.pts
  own : Own wr w.heap.size 66 4 IC.Col.cells ad cap acc
  apart : ∀ a b, adc = some a → ad = some b → a.block ≠ b.block
  kept : ∀ k, k < w.heap.size → k ≠ q → (∀ a, x.adc = some a → k ≠ a.block) → wr.heap[k]? = w.heap[k]?
  old : ∀ a, adc = some a → x.adc = some a ∨ w.heap.size ≤ a.block
  rest : wr.os = w.os ∧ wr.tape = w.tape ∧ wr.output = w.output ∧ w.heap.size ≤ wr.heap.size

/-- What comes of colors. -/
def ColsPost (x : Src) (q : Nat) (s : DP.St) (w' : World) (g : List IC.Col) (ad : Option Addr) : Except DP.Bad (List IC.Col × DP.St) → Prop
  | .ok v => v.1 = g ∧ v.2.far = s.far ∧ v.2.pts = s.pts ∧ ∃ adc capc, Rd (withCols x adc capc) q w' v.2 ∧ (∀ a b, adc = some a → ad = some b → a.block ≠ b.block)
  | .error e => Rx x q w' e

theorem col_facts {bs : List Nat} {s s' : DP.St} {c : IC.Col} (h : DP.col bs s = .ok (c, s')) : s'.cols.length = s.cols.length + 1 ∧ s'.far = s.far ∧ s'.pts = s.pts := by
  unfold DP.col at h
  split at h
  · cases h
  · split at h
    · cases h
    · cases h
      exact ⟨by simp, rfl, rfl⟩

/-- The reader's memory, behind growth of another list. -/
theorem Rd.grownApart {x : Src} {q : Nat} {w w' : World} {s : DP.St} (h : Rd x q w s) {ad : Option Addr} {B : Nat} (hg : w.grownBy w' (ad.map (·.block))) (hB : ∀ b, ad = some b → B ≤ b.block) (hq : q < B) (hap : ∀ a b, x.adc = some a → ad = some b → a.block ≠ b.block) : Rd x q w' s := by
  have hlow : Below q w w' := (Below.refl q w).grown hg (Nat.le_of_lt h.lt) (fun k e => by
    cases ad with
    | none => simp at e
    | some a => have := hB a rfl; simp at e; omega)
  refine ⟨h.base.low hlow, h.fit, h.blk.grown hg (fun a e => by have := hB a e; omega), h.own.kept fun a e => ?_⟩
  refine hg.block _ (h.own.lt a e).2 fun e2 => ?_
  cases ad with
  | none => simp at e2
  | some b => simp at e2; exact hap a b e rfl e2

set_option maxRecDepth 20000 in
set_option maxHeartbeats 2000000 in
theorem dcols_any (x : Src) (q n : Nat) (s : DP.St) (w : World) (h : Rd x q w s) (h0 : s.cols = []) (hn : n ≤ 256) (hcap : x.bs.length ≤ x.cap) (hao : ∃ g o, x.ao = some ⟨g, o, none⟩ ∧ g < q) :
    Calls Tryz.prog 57 #[.pointer (some ⟨q, 0, none⟩), .int .u64 n, .func (.func 59) #[.pointer (some ⟨q, 0, none⟩)] #[]] w fun e w' => ∃ (g : List IC.Col) (ad : Option Addr) (cap : Nat), e = .returned (.slice ad g.length cap) ∧ Own w' w.heap.size 66 4 IC.Col.cells ad cap g ∧ (∀ k, k < w.heap.size → k ≠ q → (∀ a, x.adc = some a → k ≠ a.block) → w'.heap[k]? = w.heap[k]?) ∧ (w'.os = w.os ∧ w'.tape = w.tape ∧ w'.output = w.output ∧ w.heap.size ≤ w'.heap.size) ∧ ColsPost x q s w' g ad (DP.list (DP.col x.bs) n [] s) := by
  have hqw := h.lt
  have S0 : Hid (ColsSt x q n w s 0 [] s x.adc x.capc none 0 w) := ⟨rfl, rfl, h, rfl, ⟨rfl, rfl⟩, own_nil _ _ _ _ _, (fun a b _ e => by cases e), (fun _ _ _ _ => rfl), (fun a e => .inl e), rfl, rfl, rfl, Nat.le_refl _⟩
  have kc : Hid (∀ (adc : Option Addr) (capc : Nat) (s' : DP.St) (W : World), Rd (withCols x adc capc) q W s' → s'.cols.length < 256 → Calls Tryz.prog 59 #[.pointer (some ⟨q, 0, none⟩)] W fun e w' => ∃ c : IC.Col, e = .returned (.agg c.cells.toArray) ∧ ColPost (withCols x adc capc) q W (DP.col x.bs s') c w') := fun adc capc s' W hW hc => dcol_any (withCols x adc capc) q s' W hW hc hcap hao
  have HC0 : Hid (s.cols.length = 0) := by show s.cols.length = 0; rw [h0]; rfl
  obtain ⟨RP, hRP⟩ : ∃ RP, DP.list (DP.col x.bs) n [] s = RP := ⟨_, rfl⟩
  have HRP := hid'' hRP
  rw [hRP]
  clear hRP h h0 hcap hao
  go_enter Tryz.func57, Tryz.ntmps57
  go_wp2
  go_loopw [7, 10] (fun o i wr => ∃ (j : Nat) (acc : List IC.Col) (s' : DP.St) (adc : Option Addr) (capc : Nat) (ad : Option Addr) (cap : Nat), j ≤ n ∧ i = .int .u64 j ∧ o = .slice ad j cap ∧ Hid (ColsSt x q n w s j acc s' adc capc ad cap wr)) (fun _ i _ => n - (intOf i).toNat)
  case atStart => exact ⟨0, [], s, x.adc, x.capc, none, 0, by omega, rfl, rfl, S0⟩
  case round =>
    obtain ⟨j, acc, s', adc, capc, ad, cap, hj, rfl, rfl, HS⟩ := hrel
    by_cases hjn : j < n
    · go_upto_region 5 with (first
        | (go_at_call 59; refine (kc.out adc capc s' _ HS.out.rd (by have := HS.out.cols; have := HC0.out; omega)).mono ?_; rintro e w1 ⟨⟨cr, cg, cb, ca⟩, rfl, hp1⟩
           have HP1 := hid'' hp1
           have hw1 := hp1.1.size
           clear hp1
           simp only [IC.Col.cells]))
      have hstep : DP.list (DP.col x.bs) (n - j) acc s' = DP.andThen (DP.col x.bs) (fun y => DP.list (DP.col x.bs) (n - (j + 1)) (acc ++ [y])) s' := by rw [show n - j = (n - (j + 1)) + 1 by omega]; rfl
      obtain ⟨RC, hRC⟩ : ∃ RC, DP.col x.bs s' = RC := ⟨_, rfl⟩
      have hown1 : Own w1 w.heap.size 66 4 IC.Col.cells ad cap acc := HS.out.own.kept fun a e => HP1.out.1.block _ (HS.out.own.lt a e).2 (by have := (HS.out.own.lt a e).1; omega) (fun b eb e2 => HS.out.apart b a eb e e2.symm)
      have hk1 : ∀ k, k < w.heap.size → k ≠ q → (∀ a, x.adc = some a → k ≠ a.block) → w1.heap[k]? = w.heap[k]? := fun k hk h1 h2 => (HP1.out.1.block k (by have := HS.out.rest.2.2.2; omega) h1 (fun a ea => by
        rcases HS.out.old a ea with e | e
        · exact h2 a e
        · omega)).trans (HS.out.kept k hk h1 h2)
      have hr1 : w1.os = w.os ∧ w1.tape = w.tape ∧ w1.output = w.output ∧ w.heap.size ≤ w1.heap.size := ⟨HP1.out.1.os.trans HS.out.rest.1, HP1.out.1.tape.trans HS.out.rest.2.1, HP1.out.1.output.trans HS.out.rest.2.2.1, Nat.le_trans HS.out.rest.2.2.2 hw1⟩
      cases RC with
      | error e =>
        have HX : Hid (Rx x q w1 e) := by
          have := HP1.out.2
          rw [hRC] at this
          obtain ⟨hb, hx, h13⟩ := this
          exact ⟨⟨hb.errs, hb.q13, hb.qlt, hb.byt, hb.lt256, hb.len⟩, hx, h13⟩
        have HE : Hid (RP = .error e) := by
          rw [← HRP.out, HS.out.eq, hstep]
          exact DP.andThen_err hRC
        obtain ⟨gE, c2⟩ := Rs.errCell' (x := x) (e := e) HX.out
        have hq1 := Rs.lt (x := x) (R := .error e) HX.out
        have HK1 := hid'' hk1
        have HR1 := hid'' hr1
        clear hRC hown1 hk1 hr1 hstep
        go_wp2
        go_ret
        refine ⟨[], none, 0, rfl, own_nil _ _ _ _ _, fun k hk h1 h2 => (Below.heap_alloc _ _ _ (by have := HR1.out.2.2.2; omega)).trans (HK1.out k hk h1 h2), ⟨HR1.out.1, HR1.out.2.1, HR1.out.2.2.1, by have := HR1.out.2.2.2; simp; omega⟩, ?_⟩
        rw [HE.out]
        exact Rx.below HX.out ((Below.refl _ _).alloc (Nat.le_refl _) _)
      | ok v =>
        obtain ⟨c', s1⟩ := v
        have hp := HP1.out.2
        rw [hRC] at hp
        obtain ⟨hc', ad1, cap1, hrd1, hold1⟩ := hp
        replace hc' : (⟨cr, cg, cb, ca⟩ : IC.Col) = c' := hc'
        subst hc'
        obtain ⟨f1, f2, f3⟩ := col_facts hRC
        have HRD : Hid (Rd (withCols x (some ad1) cap1) q w1 s1) := hrd1
        have c2 : w1.cell? ⟨q, 2, none⟩ = some .nilIface := hrd1.blk.cell 2
        have hq1 := hrd1.lt
        have HLT : Hid (ad1.block < w1.heap.size) := (hrd1.own.lt ad1 rfl).2
        have HAP : Hid (∀ b, ad = some b → ad1.block ≠ b.block) := fun b eb => by
          rcases hold1 with e | e
          · exact HS.out.apart ad1 b e eb
          · have := (HS.out.own.lt b eb).2; omega
        have HEQ : Hid (DP.list (DP.col x.bs) n [] s = DP.list (DP.col x.bs) (n - (j + 1)) (acc ++ [⟨cr, cg, cb, ca⟩]) s1) := by
          show _ = _
          rw [HS.out.eq, hstep]
          exact DP.andThen_ok hRC
        have HF : Hid (s1.cols.length = s.cols.length + (j + 1) ∧ s1.far = s.far ∧ s1.pts = s.pts) := ⟨by rw [f1, HS.out.cols]; omega, f2.trans HS.out.keep.1, f3.trans HS.out.keep.2⟩
        have HOLD : Hid (x.adc = some ad1 ∨ w.heap.size ≤ ad1.block) := by
          rcases hold1 with e | e
          · exact HS.out.old ad1 e
          · right; have := HS.out.rest.2.2.2; omega
        have hlen := HS.out.len
        have HOW := hid'' hown1
        have HK1 := hid'' hk1
        have HR1 := hid'' hr1
        have hsz := hr1.2.2.2
        clear hRC hown1 hk1 hr1 hstep hrd1 hold1 f1 f2 f3
        go_wp2_with (first
          | (at_builtin; refine wpList_pushL _ rfl (.tmp 19) (.tmp 21) 24 rfl w.heap.size 66 _ 4 4 Tryz.underlying24 infoColor rfl (by decide) IC.Col.cells dcol_len acc ⟨cr, cg, cb, ca⟩ j hlen rfl ((HOW.out.alloc _).alloc _) (w1.heap.size + 1) rfl (new_cells2 _ _ _ _ (by simp)) (col_one _) (by omega) (by omega) (by simp; omega) ?_
             intro g' cap' w3 hown' hg' hat'
             have b2 : Below w1.heap.size w1 ((w1.alloc (Obj.cells #[.int .u8 cr, .int .u8 cg, .int .u8 cb, .int .u8 ca] 66)).alloc (Obj.cells #[.int .u8 cr, .int .u8 cg, .int .u8 cb, .int .u8 ca] 66)) := ((Below.refl _ _).alloc (Nat.le_refl _) _).alloc (by simp) _
             have hap2 : ∀ a b, some ad1 = some a → some (⟨g', 0, none⟩ : Addr) = some b → a.block ≠ b.block := fun a b ea eb => by
               cases ea
               cases eb
               show ad1.block ≠ g'
               rcases hat' with e | e
               · cases ha : ad with
                 | none => rw [ha] at e; simp at e
                 | some b0 => rw [ha] at e; simp at e; rw [← e]; exact HAP.out b0 ha
               · have := HLT.out; simp at e; omega
             have hkp2 : ∀ k, k < w.heap.size → k ≠ q → (∀ a, x.adc = some a → k ≠ a.block) → w3.heap[k]? = w.heap[k]? := fun k hk h1 h2 => ((hg'.block k (by simp; omega) (fun e => by
               cases ha : ad with
               | none => rw [ha] at e; simp at e
               | some b0 => rw [ha] at e; simp at e; have := (HOW.out.lt b0 ha).1; omega)).trans (b2.block k (by omega))).trans (HK1.out k hk h1 h2)
             have HT : Hid (ColsSt x q n w s (j + 1) (acc ++ [⟨cr, cg, cb, ca⟩]) s1 (some ad1) cap1 (some ⟨g', 0, none⟩) cap' w3) := ⟨by simp [hlen], HEQ.out, (HRD.out.below b2).grownApart hg' (fun b eb => (HOW.out.lt b eb).1) hqw (fun a b ea eb => by cases ea; exact HAP.out b eb), HF.out.1, ⟨HF.out.2.1, HF.out.2.2⟩, hown', hap2, hkp2, (fun a ea => by cases ea; exact HOLD.out), ⟨hg'.os.trans HR1.out.1, hg'.tape.trans HR1.out.2.1, hg'.output.trans HR1.out.2.2.1, by have := hg'.size; simp at this; omega⟩⟩
             clear hown' hg' hat' b2 hap2 hkp2))
        go_roundw
        case rel => exact ⟨j + 1, _, _, _, _, _, _, by omega, by go_num, by go_num, HT⟩
        case measure => simp [intOf]; omega
    · obtain rfl : j = n := by omega
      have hlen := HS.out.len
      go_wp2
      go_ret
      have e := HS.out.eq
      rw [Nat.sub_self, HRP.out] at e
      have er : RP = .ok (acc, s') := e
      rw [er]
      exact ⟨acc, ad, cap, ret_w (by rw [hlen]; rfl), HS.out.own, HS.out.kept, HS.out.rest, rfl, HS.out.keep.1, HS.out.keep.2, adc, capc, HS.out.rd, HS.out.apart⟩

end Go.Proofs.YtcnlkdoifogkbaaGreatDoor

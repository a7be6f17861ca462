/-
  Some ways of IconErrors: walked over the program.
-/
import Derived.Test.YtofmbedjbnbjlaaDoorIconErrV
namespace Go.Proofs.YtofmbedjbnbjlaaDoor
open Go.RowKit

set_option maxRecDepth 100000 in
set_option maxHeartbeats 4000000 in
theorem errors_0 (A : Nat → Addr) (a : Option Addr) (len cap : Nat) (zs : List Int) (n : Int) (w : World) (hE : Errs13 w A) (hl : len ≤ 200) (hr : IsRow .i64 w a len cap zs) (hn : (n.tmod 18 + 18).tmod 18 = 0) (hb : -18 < n.tmod 18 ∧ n.tmod 18 < 18) :
    Calls Tryd.prog 8 #[.slice a len cap, .int .i64 n] w fun e w' => e = .returned (.bool true) ∧ Below w.heap.size w w' := by
  have kf : Hid (∀ W, Below w.heap.size w W → Calls Tryd.prog 22 #[] W fun e w' => e = .returned (.bool true) ∧ Below W.heap.size W w') := fun W hb => first_any A W (hE.three'.below hb)
  have ki : Hid (∀ W, Below w.heap.size w W → Calls Tryd.prog 10 #[.pointer (some ⟨W.heap.size, 0, none⟩)] (W.alloc (.cells #[.slice a len cap, .int .i64 0] 26)) fun e w' => (∃ i : IC.Icon, e = .returned (.agg i.cells.toArray) ∧ Good i ∧ IconOk w' i) ∧ Below W.heap.size W w') := fun W hb => icon_row hr hb
  have HE : Hid (Errs13 w A) := hE
  have hli : ¬ (200 : Int) < (len : Int) := by omega
  clear hE hr
  obtain ⟨r, hr'⟩ : ∃ r, n.tmod 18 = r := ⟨_, rfl⟩
  rw [hr'] at hn hb
  go_enter Tryd.func8, Tryd.ntmps8
  go_upto_region 9 with (first
    | (go_at_call 22; refine (kf.out _ (Below.refl _ _)).mono ?_; rintro e w1 ⟨rfl, hb1⟩; have B1 : Hid (Below w.heap.size w w1) := hb1; clear hb1)
    | (go_at_call 10; refine (ki.out _ B1.out).mono ?_; rintro e w2 ⟨⟨i, rfl, hgood, hok⟩, hb2⟩
       have B2 : Hid (Below w.heap.size w w2) := chain B1.out hb2
       obtain ⟨ha0, ha1, ha2, -, -, -, -, -⟩ := hgood
       obtain ⟨adc, capc, hvc, -, -⟩ := Many.len hok.1
       obtain ⟨adm, capm, hvm, -, -⟩ := Many.len hok.2.1
       obtain ⟨a0, a1, a2, vc, cols, vm, cmds⟩ := i
       replace hvc : vc = .slice adc cols.length capc := hvc
       replace hvm : vm = .slice adm cmds.length capm := hvm
       replace ha0 : 1 ≤ a0 ∧ a0 ≤ 24 := ha0
       replace ha1 : 1 ≤ a1 ∧ a1 ≤ 24 := ha1
       replace ha2 : 0 ≤ a2 ∧ a2 ≤ 6 := ha2
       generalize cols.length = nc at hvc
       generalize cmds.length = nm at hvm
       subst hvc
       subst hvm
       clear hb2 hok
       simp only [IC.Icon.cells]))
  have hsix := six_new w2 a0 a1 a2
  generalize hV : (((((w2.alloc (.cells #[.int .i64 a0, .int .i64 a1, .int .i64 a2, .slice (some ⟨w2.heap.size + 1 + 1 + 1 + 1, 0, none⟩) 1 1, .slice (some ⟨w2.heap.size + 1 + 1 + 1 + 1 + 1, 0, none⟩) 1 1] 30)).alloc (.cells #[.int .i64 1, .int .i64 1, .int .i64 0, .int .i64 0, .int .i64 0, .int .i64 0, .int .i64 0] 60)).alloc (.cells #[.int .i64 0, .int .i64 0, .slice (some ⟨w2.heap.size + 1, 0, none⟩) 1 1, .bool false] 51)).alloc (.cells #[.int .i64 1, .int .i64 0, .int .i64 0, .int .i64 0, .int .i64 0, .int .i64 0, .int .i64 0, .int .i64 0, .int .i64 0, .int .i64 0, .slice (some ⟨w2.heap.size + 1 + 1, 0, none⟩) 1 1] 45)).alloc (.cells #[.int .u8 0, .int .u8 0, .int .u8 0, .int .u8 5] 63)).alloc (.cells #[.int .i64 1, .int .i64 0, .int .i64 0, .int .i64 0, .int .i64 0, .int .i64 0, .int .i64 0, .int .i64 0, .int .i64 0, .int .i64 0, .slice (some ⟨w2.heap.size + 1 + 1, 0, none⟩) 1 1] 45) = V at hsix ⊢
  have B3 : Hid (Below w.heap.size w V) := by rw [← hV]; exact six_below B2.out _ _ _ _ _ _
  have hwI := B2.out.size
  generalize hI : w2.heap.size = I at hsix hwI ⊢
  have HS : Hid (Six V I a0 a1 a2) := hsix
  obtain ⟨g, hg⟩ : ∃ g, 4 * max a0 a1 * 2 ^ a2.toNat = g := ⟨_, rfl⟩
  have HGb : Hid (4 ≤ g ∧ g ≤ 6144) := g_bound ha0 ha1 ha2 hg
  have HG : Hid (4 * max a0 a1 * 2 ^ a2.toNat = g) := hg
  have kG : Hid (∀ W, Calls Tryd.prog 23 #[.agg #[.int .i64 a0, .int .i64 a1, .int .i64 a2, .slice (some ⟨I + 1 + 1 + 1 + 1, 0, none⟩) 1 1, .slice (some ⟨I + 1 + 1 + 1 + 1 + 1, 0, none⟩) 1 1]] W fun e w' => e = .returned (.int .i64 g) ∧ Below W.heap.size W w') := fun W => by
    have h := greatest_any ⟨a0, a1, a2, .slice (some ⟨I + 1 + 1 + 1 + 1, 0, none⟩) 1 1, [⟨0, 0, 0, 5⟩], .slice (some ⟨I + 1 + 1 + 1 + 1 + 1, 0, none⟩) 1 1, [⟨1, 0, 0, ⟨0, 0, 0, ⟨0, 0⟩, ⟨0, 0⟩⟩, .slice (some ⟨I + 1 + 1, 0, none⟩) 1 1, [⟨⟨0, 0⟩, .slice (some ⟨I + 1, 0, none⟩) 1 1, [⟨1, ⟨1, 0⟩, ⟨0, 0⟩, ⟨0, 0⟩⟩], false⟩]⟩]⟩ W
    rw [(small_chk ha0 ha1 ha2 hg).1] at h
    exact h
  have kC : Hid (∀ W, Below w.heap.size w W → Six W I a0 a1 a2 → Calls Tryd.prog 24 #[.agg #[.int .i64 a0, .int .i64 a1, .int .i64 a2, .slice (some ⟨I + 1 + 1 + 1 + 1, 0, none⟩) 1 1, .slice (some ⟨I + 1 + 1 + 1 + 1 + 1, 0, none⟩) 1 1]] W fun e w' => e = .returned .nilIface ∧ Below W.heap.size W w') := fun W hb hs => by
    have h := check_any A ⟨a0, a1, a2, .slice (some ⟨I + 1 + 1 + 1 + 1, 0, none⟩) 1 1, [⟨0, 0, 0, 5⟩], .slice (some ⟨I + 1 + 1 + 1 + 1 + 1, 0, none⟩) 1 1, [⟨1, 0, 0, ⟨0, 0, 0, ⟨0, 0⟩, ⟨0, 0⟩⟩, .slice (some ⟨I + 1 + 1, 0, none⟩) 1 1, [⟨⟨0, 0⟩, .slice (some ⟨I + 1, 0, none⟩) 1 1, [⟨1, ⟨1, 0⟩, ⟨0, 0⟩, ⟨0, 0⟩⟩], false⟩]⟩]⟩ W (HE.out.three'.below hb) hs.ok
    rw [(small_chk ha0 ha1 ha2 hg).2.2 (small_good HGb.out.1).chk (by show (2 : Int) ≤ 4000; omega) rfl rfl] at h
    exact h
  clear hsix hV hI hg B1 B2 ki kf
  obtain ⟨⟨i0, i1, i2, i3, i4⟩, i5⟩ := cells_icon HS.out.icon
  go_upto_region 10 with (first
    | (go_at_call 23; refine (kG.out _).mono ?_; rintro e w3 ⟨rfl, hb3⟩
       have HS3 : Hid (Six w3 I a0 a1 a2) := HS.out.below hb3
       have B4 : Hid (Below w.heap.size w w3) := chain B3.out hb3
       clear hb3))
  clear i0 i1 i2 i3 i4 i5
  obtain ⟨⟨i0, i1, i2, i3, i4⟩, i5⟩ := cells_icon HS3.out.icon
  go_cut [59] from 43 (fun s x => s = .bool false ∧ Hid (Six x I a0 a1 a2 ∧ Below w.heap.size w x))
  case first =>
    have hS : a2 = 0 ∨ a2 = 1 ∨ a2 = 2 ∨ a2 = 3 ∨ a2 = 4 ∨ a2 = 5 ∨ a2 = 6 := by omega
    rcases hS with rfl | rfl | rfl | rfl | rfl | rfl | rfl <;>
    · go_wp2_with (first
        | (go_at_call 24; refine (kC.out _ B4.out HS3.out).mono ?_; rintro e w4 ⟨rfl, hb4⟩
           have HS4 : Hid (Six w4 _ _ _ _) := HS3.out.below hb4
           have B5 : Hid (Below w.heap.size w w4) := chain B4.out hb4
           clear hb4
           obtain ⟨⟨j0, j1, j2, j3, j4⟩, j5⟩ := cells_icon HS4.out.icon))
      all_goals
        go_meet
        case rel => exact ⟨by have h := HG.out; rw [Int.max_def] at h; first | (congr 1; simp; simp at h; omega) | (simp; simp at h; omega), ⟨HS4.out, B5.out⟩⟩
  case rest =>
    obtain ⟨rfl, hx⟩ := hcut
    have HS4 : Hid (Six wc I a0 a1 a2) := hx.out.1
    have B5 : Hid (Below w.heap.size w wc) := hx.out.2
    clear hx HS HS3 B3 B4 kC kG i0 i1 i2 i3 i4 i5
    obtain ⟨⟨i0, i1, i2, i3, i4⟩, -⟩ := cells_icon HS4.out.icon
    have ifr := HS4.out.icon.frozen
    obtain ⟨⟨c0, c1, c2, c3, c4, c5, c6, c7, c8, c9, c10⟩, cf⟩ := cells_cmd HS4.out.cmd
    obtain ⟨⟨p0, p1, p2, p3⟩, pf0, pf1, pf2, pf3⟩ := cells_four HS4.out.path
    obtain ⟨⟨s0, s1, s2, s3, s4, s5, s6⟩, sf⟩ := cells_seven HS4.out.seg
    have hok : IconOk (wc.setCell ⟨I, 0, none⟩ (.int .i64 4097)) ⟨4097, a1, a2, .slice (some ⟨I + 1 + 1 + 1 + 1, 0, none⟩) 1 1, [⟨0, 0, 0, 5⟩], .slice (some ⟨I + 1 + 1 + 1 + 1 + 1, 0, none⟩) 1 1, [⟨1, 0, 0, ⟨0, 0, 0, ⟨0, 0⟩, ⟨0, 0⟩⟩, .slice (some ⟨I + 1 + 1, 0, none⟩) 1 1, [⟨⟨0, 0⟩, .slice (some ⟨I + 1, 0, none⟩) 1 1, [⟨1, ⟨1, 0⟩, ⟨0, 0⟩, ⟨0, 0⟩⟩], false⟩]⟩]⟩ := small_ok (HS4.out.col.far (by show I + 1 + 1 + 1 + 1 ≠ I; omega) _) (HS4.out.cmd.far (by show I + 1 + 1 + 1 + 1 + 1 ≠ I; omega) _) (small_cmd rfl rfl (HS4.out.path.far (by show I + 1 + 1 ≠ I; omega) _) (small_path rfl rfl (HS4.out.seg.far (by show I + 1 ≠ I; omega) _)))
    have BX : Hid (Below w.heap.size w (wc.setCell ⟨I, 0, none⟩ (.int .i64 4097))) := B5.out.setCell (by show w.heap.size ≤ I; omega) _
    have hval : IC.chk ⟨4097, a1, a2, .slice (some ⟨I + 1 + 1 + 1 + 1, 0, none⟩) 1 1, [⟨0, 0, 0, 5⟩], .slice (some ⟨I + 1 + 1 + 1 + 1 + 1, 0, none⟩) 1 1, [⟨1, 0, 0, ⟨0, 0, 0, ⟨0, 0⟩, ⟨0, 0⟩⟩, .slice (some ⟨I + 1 + 1, 0, none⟩) 1 1, [⟨⟨0, 0⟩, .slice (some ⟨I + 1, 0, none⟩) 1 1, [⟨1, ⟨1, 0⟩, ⟨0, 0⟩, ⟨0, 0⟩⟩], false⟩]⟩]⟩ = 1 := by unfold IC.chk; rw [show IC.sized _ = false from by simp [IC.sized, IC.within]]; rfl
    have hkC := check_any A _ _ (HE.out.three'.below BX.out) hok
    rw [hval] at hkC
    have kX : Hid (Calls Tryd.prog 24 #[.agg #[.int .i64 4097, .int .i64 a1, .int .i64 a2, .slice (some ⟨I + 1 + 1 + 1 + 1, 0, none⟩) 1 1, .slice (some ⟨I + 1 + 1 + 1 + 1 + 1, 0, none⟩) 1 1]] (wc.setCell ⟨I, 0, none⟩ (.int .i64 4097)) fun e w' => e = .returned (.iface 154 (.pointer (some (A 0)))) ∧ Below (wc.setCell ⟨I, 0, none⟩ (.int .i64 4097)).heap.size (wc.setCell ⟨I, 0, none⟩ (.int .i64 4097)) w') := hkC
    have hgl := HGb.out.1
    have hgr := HGb.out.2
    clear hok hval hkC
    go_wp2_with (first
      | (go_at_call 24; refine (kX.out).mono ?_; rintro e w5 ⟨rfl, hb5⟩; have B6 : Hid (Below w.heap.size w w5) := chain BX.out hb5; clear hb5)
      | (go_at_call 17; refine (is_bare A w5 (HE.out.below B6.out) 4 (by omega) (A 0) rfl 105 rfl).mono ?_; rintro e w6 ⟨rfl, hb6⟩))
    go_ret
    exact ⟨rfl, chain B6.out hb6⟩

set_option maxRecDepth 100000 in
set_option maxHeartbeats 4000000 in
theorem errors_1 (A : Nat → Addr) (a : Option Addr) (len cap : Nat) (zs : List Int) (n : Int) (w : World) (hE : Errs13 w A) (hl : len ≤ 200) (hr : IsRow .i64 w a len cap zs) (hn : (n.tmod 18 + 18).tmod 18 = 1) (hb : -18 < n.tmod 18 ∧ n.tmod 18 < 18) :
    Calls Tryd.prog 8 #[.slice a len cap, .int .i64 n] w fun e w' => e = .returned (.bool true) ∧ Below w.heap.size w w' := by
  have kf : Hid (∀ W, Below w.heap.size w W → Calls Tryd.prog 22 #[] W fun e w' => e = .returned (.bool true) ∧ Below W.heap.size W w') := fun W hb => first_any A W (hE.three'.below hb)
  have ki : Hid (∀ W, Below w.heap.size w W → Calls Tryd.prog 10 #[.pointer (some ⟨W.heap.size, 0, none⟩)] (W.alloc (.cells #[.slice a len cap, .int .i64 0] 26)) fun e w' => (∃ i : IC.Icon, e = .returned (.agg i.cells.toArray) ∧ Good i ∧ IconOk w' i) ∧ Below W.heap.size W w') := fun W hb => icon_row hr hb
  have HE : Hid (Errs13 w A) := hE
  have hli : ¬ (200 : Int) < (len : Int) := by omega
  clear hE hr
  obtain ⟨r, hr'⟩ : ∃ r, n.tmod 18 = r := ⟨_, rfl⟩
  rw [hr'] at hn hb
  go_enter Tryd.func8, Tryd.ntmps8
  go_upto_region 9 with (first
    | (go_at_call 22; refine (kf.out _ (Below.refl _ _)).mono ?_; rintro e w1 ⟨rfl, hb1⟩; have B1 : Hid (Below w.heap.size w w1) := hb1; clear hb1)
    | (go_at_call 10; refine (ki.out _ B1.out).mono ?_; rintro e w2 ⟨⟨i, rfl, hgood, hok⟩, hb2⟩
       have B2 : Hid (Below w.heap.size w w2) := chain B1.out hb2
       obtain ⟨ha0, ha1, ha2, -, -, -, -, -⟩ := hgood
       obtain ⟨adc, capc, hvc, -, -⟩ := Many.len hok.1
       obtain ⟨adm, capm, hvm, -, -⟩ := Many.len hok.2.1
       obtain ⟨a0, a1, a2, vc, cols, vm, cmds⟩ := i
       replace hvc : vc = .slice adc cols.length capc := hvc
       replace hvm : vm = .slice adm cmds.length capm := hvm
       replace ha0 : 1 ≤ a0 ∧ a0 ≤ 24 := ha0
       replace ha1 : 1 ≤ a1 ∧ a1 ≤ 24 := ha1
       replace ha2 : 0 ≤ a2 ∧ a2 ≤ 6 := ha2
       generalize cols.length = nc at hvc
       generalize cmds.length = nm at hvm
       subst hvc
       subst hvm
       clear hb2 hok
       simp only [IC.Icon.cells]))
  have hsix := six_new w2 a0 a1 a2
  generalize hV : (((((w2.alloc (.cells #[.int .i64 a0, .int .i64 a1, .int .i64 a2, .slice (some ⟨w2.heap.size + 1 + 1 + 1 + 1, 0, none⟩) 1 1, .slice (some ⟨w2.heap.size + 1 + 1 + 1 + 1 + 1, 0, none⟩) 1 1] 30)).alloc (.cells #[.int .i64 1, .int .i64 1, .int .i64 0, .int .i64 0, .int .i64 0, .int .i64 0, .int .i64 0] 60)).alloc (.cells #[.int .i64 0, .int .i64 0, .slice (some ⟨w2.heap.size + 1, 0, none⟩) 1 1, .bool false] 51)).alloc (.cells #[.int .i64 1, .int .i64 0, .int .i64 0, .int .i64 0, .int .i64 0, .int .i64 0, .int .i64 0, .int .i64 0, .int .i64 0, .int .i64 0, .slice (some ⟨w2.heap.size + 1 + 1, 0, none⟩) 1 1] 45)).alloc (.cells #[.int .u8 0, .int .u8 0, .int .u8 0, .int .u8 5] 63)).alloc (.cells #[.int .i64 1, .int .i64 0, .int .i64 0, .int .i64 0, .int .i64 0, .int .i64 0, .int .i64 0, .int .i64 0, .int .i64 0, .int .i64 0, .slice (some ⟨w2.heap.size + 1 + 1, 0, none⟩) 1 1] 45) = V at hsix ⊢
  have B3 : Hid (Below w.heap.size w V) := by rw [← hV]; exact six_below B2.out _ _ _ _ _ _
  have hwI := B2.out.size
  generalize hI : w2.heap.size = I at hsix hwI ⊢
  have HS : Hid (Six V I a0 a1 a2) := hsix
  obtain ⟨g, hg⟩ : ∃ g, 4 * max a0 a1 * 2 ^ a2.toNat = g := ⟨_, rfl⟩
  have HGb : Hid (4 ≤ g ∧ g ≤ 6144) := g_bound ha0 ha1 ha2 hg
  have HG : Hid (4 * max a0 a1 * 2 ^ a2.toNat = g) := hg
  have kG : Hid (∀ W, Calls Tryd.prog 23 #[.agg #[.int .i64 a0, .int .i64 a1, .int .i64 a2, .slice (some ⟨I + 1 + 1 + 1 + 1, 0, none⟩) 1 1, .slice (some ⟨I + 1 + 1 + 1 + 1 + 1, 0, none⟩) 1 1]] W fun e w' => e = .returned (.int .i64 g) ∧ Below W.heap.size W w') := fun W => by
    have h := greatest_any ⟨a0, a1, a2, .slice (some ⟨I + 1 + 1 + 1 + 1, 0, none⟩) 1 1, [⟨0, 0, 0, 5⟩], .slice (some ⟨I + 1 + 1 + 1 + 1 + 1, 0, none⟩) 1 1, [⟨1, 0, 0, ⟨0, 0, 0, ⟨0, 0⟩, ⟨0, 0⟩⟩, .slice (some ⟨I + 1 + 1, 0, none⟩) 1 1, [⟨⟨0, 0⟩, .slice (some ⟨I + 1, 0, none⟩) 1 1, [⟨1, ⟨1, 0⟩, ⟨0, 0⟩, ⟨0, 0⟩⟩], false⟩]⟩]⟩ W
    rw [(small_chk ha0 ha1 ha2 hg).1] at h
    exact h
  have kC : Hid (∀ W, Below w.heap.size w W → Six W I a0 a1 a2 → Calls Tryd.prog 24 #[.agg #[.int .i64 a0, .int .i64 a1, .int .i64 a2, .slice (some ⟨I + 1 + 1 + 1 + 1, 0, none⟩) 1 1, .slice (some ⟨I + 1 + 1 + 1 + 1 + 1, 0, none⟩) 1 1]] W fun e w' => e = .returned .nilIface ∧ Below W.heap.size W w') := fun W hb hs => by
    have h := check_any A ⟨a0, a1, a2, .slice (some ⟨I + 1 + 1 + 1 + 1, 0, none⟩) 1 1, [⟨0, 0, 0, 5⟩], .slice (some ⟨I + 1 + 1 + 1 + 1 + 1, 0, none⟩) 1 1, [⟨1, 0, 0, ⟨0, 0, 0, ⟨0, 0⟩, ⟨0, 0⟩⟩, .slice (some ⟨I + 1 + 1, 0, none⟩) 1 1, [⟨⟨0, 0⟩, .slice (some ⟨I + 1, 0, none⟩) 1 1, [⟨1, ⟨1, 0⟩, ⟨0, 0⟩, ⟨0, 0⟩⟩], false⟩]⟩]⟩ W (HE.out.three'.below hb) hs.ok
    rw [(small_chk ha0 ha1 ha2 hg).2.2 (small_good HGb.out.1).chk (by show (2 : Int) ≤ 4000; omega) rfl rfl] at h
    exact h
  clear hsix hV hI hg B1 B2 ki kf
  obtain ⟨⟨i0, i1, i2, i3, i4⟩, i5⟩ := cells_icon HS.out.icon
  go_upto_region 10 with (first
    | (go_at_call 23; refine (kG.out _).mono ?_; rintro e w3 ⟨rfl, hb3⟩
       have HS3 : Hid (Six w3 I a0 a1 a2) := HS.out.below hb3
       have B4 : Hid (Below w.heap.size w w3) := chain B3.out hb3
       clear hb3))
  clear i0 i1 i2 i3 i4 i5
  obtain ⟨⟨i0, i1, i2, i3, i4⟩, i5⟩ := cells_icon HS3.out.icon
  go_cut [59] from 43 (fun s x => s = .bool false ∧ Hid (Six x I a0 a1 a2 ∧ Below w.heap.size w x))
  case first =>
    have hS : a2 = 0 ∨ a2 = 1 ∨ a2 = 2 ∨ a2 = 3 ∨ a2 = 4 ∨ a2 = 5 ∨ a2 = 6 := by omega
    rcases hS with rfl | rfl | rfl | rfl | rfl | rfl | rfl <;>
    · go_wp2_with (first
        | (go_at_call 24; refine (kC.out _ B4.out HS3.out).mono ?_; rintro e w4 ⟨rfl, hb4⟩
           have HS4 : Hid (Six w4 _ _ _ _) := HS3.out.below hb4
           have B5 : Hid (Below w.heap.size w w4) := chain B4.out hb4
           clear hb4
           obtain ⟨⟨j0, j1, j2, j3, j4⟩, j5⟩ := cells_icon HS4.out.icon))
      all_goals
        go_meet
        case rel => exact ⟨by have h := HG.out; rw [Int.max_def] at h; first | (congr 1; simp; simp at h; omega) | (simp; simp at h; omega), ⟨HS4.out, B5.out⟩⟩
  case rest =>
    obtain ⟨rfl, hx⟩ := hcut
    have HS4 : Hid (Six wc I a0 a1 a2) := hx.out.1
    have B5 : Hid (Below w.heap.size w wc) := hx.out.2
    clear hx HS HS3 B3 B4 kC kG i0 i1 i2 i3 i4 i5
    obtain ⟨⟨i0, i1, i2, i3, i4⟩, -⟩ := cells_icon HS4.out.icon
    have ifr := HS4.out.icon.frozen
    obtain ⟨⟨c0, c1, c2, c3, c4, c5, c6, c7, c8, c9, c10⟩, cf⟩ := cells_cmd HS4.out.cmd
    obtain ⟨⟨p0, p1, p2, p3⟩, pf0, pf1, pf2, pf3⟩ := cells_four HS4.out.path
    obtain ⟨⟨s0, s1, s2, s3, s4, s5, s6⟩, sf⟩ := cells_seven HS4.out.seg
    have hok : IconOk (wc.setCell ⟨I, 2, none⟩ (.int .i64 7)) ⟨a0, a1, 7, .slice (some ⟨I + 1 + 1 + 1 + 1, 0, none⟩) 1 1, [⟨0, 0, 0, 5⟩], .slice (some ⟨I + 1 + 1 + 1 + 1 + 1, 0, none⟩) 1 1, [⟨1, 0, 0, ⟨0, 0, 0, ⟨0, 0⟩, ⟨0, 0⟩⟩, .slice (some ⟨I + 1 + 1, 0, none⟩) 1 1, [⟨⟨0, 0⟩, .slice (some ⟨I + 1, 0, none⟩) 1 1, [⟨1, ⟨1, 0⟩, ⟨0, 0⟩, ⟨0, 0⟩⟩], false⟩]⟩]⟩ := small_ok (HS4.out.col.far (by show I + 1 + 1 + 1 + 1 ≠ I; omega) _) (HS4.out.cmd.far (by show I + 1 + 1 + 1 + 1 + 1 ≠ I; omega) _) (small_cmd rfl rfl (HS4.out.path.far (by show I + 1 + 1 ≠ I; omega) _) (small_path rfl rfl (HS4.out.seg.far (by show I + 1 ≠ I; omega) _)))
    have BX : Hid (Below w.heap.size w (wc.setCell ⟨I, 2, none⟩ (.int .i64 7))) := B5.out.setCell (by show w.heap.size ≤ I; omega) _
    have hval : IC.chk ⟨a0, a1, 7, .slice (some ⟨I + 1 + 1 + 1 + 1, 0, none⟩) 1 1, [⟨0, 0, 0, 5⟩], .slice (some ⟨I + 1 + 1 + 1 + 1 + 1, 0, none⟩) 1 1, [⟨1, 0, 0, ⟨0, 0, 0, ⟨0, 0⟩, ⟨0, 0⟩⟩, .slice (some ⟨I + 1 + 1, 0, none⟩) 1 1, [⟨⟨0, 0⟩, .slice (some ⟨I + 1, 0, none⟩) 1 1, [⟨1, ⟨1, 0⟩, ⟨0, 0⟩, ⟨0, 0⟩⟩], false⟩]⟩]⟩ = 1 := by unfold IC.chk; rw [show IC.sized _ = false from by simp [IC.sized, IC.within]]; rfl
    have hkC := check_any A _ _ (HE.out.three'.below BX.out) hok
    rw [hval] at hkC
    have kX : Hid (Calls Tryd.prog 24 #[.agg #[.int .i64 a0, .int .i64 a1, .int .i64 7, .slice (some ⟨I + 1 + 1 + 1 + 1, 0, none⟩) 1 1, .slice (some ⟨I + 1 + 1 + 1 + 1 + 1, 0, none⟩) 1 1]] (wc.setCell ⟨I, 2, none⟩ (.int .i64 7)) fun e w' => e = .returned (.iface 154 (.pointer (some (A 0)))) ∧ Below (wc.setCell ⟨I, 2, none⟩ (.int .i64 7)).heap.size (wc.setCell ⟨I, 2, none⟩ (.int .i64 7)) w') := hkC
    have hgl := HGb.out.1
    have hgr := HGb.out.2
    clear hok hval hkC
    go_wp2_with (first
      | (go_at_call 24; refine (kX.out).mono ?_; rintro e w5 ⟨rfl, hb5⟩; have B6 : Hid (Below w.heap.size w w5) := chain BX.out hb5; clear hb5)
      | (go_at_call 17; refine (is_bare A w5 (HE.out.below B6.out) 4 (by omega) (A 0) rfl 105 rfl).mono ?_; rintro e w6 ⟨rfl, hb6⟩))
    go_ret
    exact ⟨rfl, chain B6.out hb6⟩

set_option maxRecDepth 100000 in
set_option maxHeartbeats 4000000 in
theorem errors_4 (A : Nat → Addr) (a : Option Addr) (len cap : Nat) (zs : List Int) (n : Int) (w : World) (hE : Errs13 w A) (hl : len ≤ 200) (hr : IsRow .i64 w a len cap zs) (hn : (n.tmod 18 + 18).tmod 18 = 4) (hb : -18 < n.tmod 18 ∧ n.tmod 18 < 18) :
    Calls Tryd.prog 8 #[.slice a len cap, .int .i64 n] w fun e w' => e = .returned (.bool true) ∧ Below w.heap.size w w' := by
  have kf : Hid (∀ W, Below w.heap.size w W → Calls Tryd.prog 22 #[] W fun e w' => e = .returned (.bool true) ∧ Below W.heap.size W w') := fun W hb => first_any A W (hE.three'.below hb)
  have ki : Hid (∀ W, Below w.heap.size w W → Calls Tryd.prog 10 #[.pointer (some ⟨W.heap.size, 0, none⟩)] (W.alloc (.cells #[.slice a len cap, .int .i64 0] 26)) fun e w' => (∃ i : IC.Icon, e = .returned (.agg i.cells.toArray) ∧ Good i ∧ IconOk w' i) ∧ Below W.heap.size W w') := fun W hb => icon_row hr hb
  have HE : Hid (Errs13 w A) := hE
  have hli : ¬ (200 : Int) < (len : Int) := by omega
  clear hE hr
  obtain ⟨r, hr'⟩ : ∃ r, n.tmod 18 = r := ⟨_, rfl⟩
  rw [hr'] at hn hb
  go_enter Tryd.func8, Tryd.ntmps8
  go_upto_region 9 with (first
    | (go_at_call 22; refine (kf.out _ (Below.refl _ _)).mono ?_; rintro e w1 ⟨rfl, hb1⟩; have B1 : Hid (Below w.heap.size w w1) := hb1; clear hb1)
    | (go_at_call 10; refine (ki.out _ B1.out).mono ?_; rintro e w2 ⟨⟨i, rfl, hgood, hok⟩, hb2⟩
       have B2 : Hid (Below w.heap.size w w2) := chain B1.out hb2
       obtain ⟨ha0, ha1, ha2, -, -, -, -, -⟩ := hgood
       obtain ⟨adc, capc, hvc, -, -⟩ := Many.len hok.1
       obtain ⟨adm, capm, hvm, -, -⟩ := Many.len hok.2.1
       obtain ⟨a0, a1, a2, vc, cols, vm, cmds⟩ := i
       replace hvc : vc = .slice adc cols.length capc := hvc
       replace hvm : vm = .slice adm cmds.length capm := hvm
       replace ha0 : 1 ≤ a0 ∧ a0 ≤ 24 := ha0
       replace ha1 : 1 ≤ a1 ∧ a1 ≤ 24 := ha1
       replace ha2 : 0 ≤ a2 ∧ a2 ≤ 6 := ha2
       generalize cols.length = nc at hvc
       generalize cmds.length = nm at hvm
       subst hvc
       subst hvm
       clear hb2 hok
       simp only [IC.Icon.cells]))
  have hsix := six_new w2 a0 a1 a2
  generalize hV : (((((w2.alloc (.cells #[.int .i64 a0, .int .i64 a1, .int .i64 a2, .slice (some ⟨w2.heap.size + 1 + 1 + 1 + 1, 0, none⟩) 1 1, .slice (some ⟨w2.heap.size + 1 + 1 + 1 + 1 + 1, 0, none⟩) 1 1] 30)).alloc (.cells #[.int .i64 1, .int .i64 1, .int .i64 0, .int .i64 0, .int .i64 0, .int .i64 0, .int .i64 0] 60)).alloc (.cells #[.int .i64 0, .int .i64 0, .slice (some ⟨w2.heap.size + 1, 0, none⟩) 1 1, .bool false] 51)).alloc (.cells #[.int .i64 1, .int .i64 0, .int .i64 0, .int .i64 0, .int .i64 0, .int .i64 0, .int .i64 0, .int .i64 0, .int .i64 0, .int .i64 0, .slice (some ⟨w2.heap.size + 1 + 1, 0, none⟩) 1 1] 45)).alloc (.cells #[.int .u8 0, .int .u8 0, .int .u8 0, .int .u8 5] 63)).alloc (.cells #[.int .i64 1, .int .i64 0, .int .i64 0, .int .i64 0, .int .i64 0, .int .i64 0, .int .i64 0, .int .i64 0, .int .i64 0, .int .i64 0, .slice (some ⟨w2.heap.size + 1 + 1, 0, none⟩) 1 1] 45) = V at hsix ⊢
  have B3 : Hid (Below w.heap.size w V) := by rw [← hV]; exact six_below B2.out _ _ _ _ _ _
  have hwI := B2.out.size
  generalize hI : w2.heap.size = I at hsix hwI ⊢
  have HS : Hid (Six V I a0 a1 a2) := hsix
  obtain ⟨g, hg⟩ : ∃ g, 4 * max a0 a1 * 2 ^ a2.toNat = g := ⟨_, rfl⟩
  have HGb : Hid (4 ≤ g ∧ g ≤ 6144) := g_bound ha0 ha1 ha2 hg
  have HG : Hid (4 * max a0 a1 * 2 ^ a2.toNat = g) := hg
  have kG : Hid (∀ W, Calls Tryd.prog 23 #[.agg #[.int .i64 a0, .int .i64 a1, .int .i64 a2, .slice (some ⟨I + 1 + 1 + 1 + 1, 0, none⟩) 1 1, .slice (some ⟨I + 1 + 1 + 1 + 1 + 1, 0, none⟩) 1 1]] W fun e w' => e = .returned (.int .i64 g) ∧ Below W.heap.size W w') := fun W => by
    have h := greatest_any ⟨a0, a1, a2, .slice (some ⟨I + 1 + 1 + 1 + 1, 0, none⟩) 1 1, [⟨0, 0, 0, 5⟩], .slice (some ⟨I + 1 + 1 + 1 + 1 + 1, 0, none⟩) 1 1, [⟨1, 0, 0, ⟨0, 0, 0, ⟨0, 0⟩, ⟨0, 0⟩⟩, .slice (some ⟨I + 1 + 1, 0, none⟩) 1 1, [⟨⟨0, 0⟩, .slice (some ⟨I + 1, 0, none⟩) 1 1, [⟨1, ⟨1, 0⟩, ⟨0, 0⟩, ⟨0, 0⟩⟩], false⟩]⟩]⟩ W
    rw [(small_chk ha0 ha1 ha2 hg).1] at h
    exact h
  have kC : Hid (∀ W, Below w.heap.size w W → Six W I a0 a1 a2 → Calls Tryd.prog 24 #[.agg #[.int .i64 a0, .int .i64 a1, .int .i64 a2, .slice (some ⟨I + 1 + 1 + 1 + 1, 0, none⟩) 1 1, .slice (some ⟨I + 1 + 1 + 1 + 1 + 1, 0, none⟩) 1 1]] W fun e w' => e = .returned .nilIface ∧ Below W.heap.size W w') := fun W hb hs => by
    have h := check_any A ⟨a0, a1, a2, .slice (some ⟨I + 1 + 1 + 1 + 1, 0, none⟩) 1 1, [⟨0, 0, 0, 5⟩], .slice (some ⟨I + 1 + 1 + 1 + 1 + 1, 0, none⟩) 1 1, [⟨1, 0, 0, ⟨0, 0, 0, ⟨0, 0⟩, ⟨0, 0⟩⟩, .slice (some ⟨I + 1 + 1, 0, none⟩) 1 1, [⟨⟨0, 0⟩, .slice (some ⟨I + 1, 0, none⟩) 1 1, [⟨1, ⟨1, 0⟩, ⟨0, 0⟩, ⟨0, 0⟩⟩], false⟩]⟩]⟩ W (HE.out.three'.below hb) hs.ok
    rw [(small_chk ha0 ha1 ha2 hg).2.2 (small_good HGb.out.1).chk (by show (2 : Int) ≤ 4000; omega) rfl rfl] at h
    exact h
  clear hsix hV hI hg B1 B2 ki kf
  obtain ⟨⟨i0, i1, i2, i3, i4⟩, i5⟩ := cells_icon HS.out.icon
  go_upto_region 10 with (first
    | (go_at_call 23; refine (kG.out _).mono ?_; rintro e w3 ⟨rfl, hb3⟩
       have HS3 : Hid (Six w3 I a0 a1 a2) := HS.out.below hb3
       have B4 : Hid (Below w.heap.size w w3) := chain B3.out hb3
       clear hb3))
  clear i0 i1 i2 i3 i4 i5
  obtain ⟨⟨i0, i1, i2, i3, i4⟩, i5⟩ := cells_icon HS3.out.icon
  go_cut [59] from 43 (fun s x => s = .bool false ∧ Hid (Six x I a0 a1 a2 ∧ Below w.heap.size w x))
  case first =>
    have hS : a2 = 0 ∨ a2 = 1 ∨ a2 = 2 ∨ a2 = 3 ∨ a2 = 4 ∨ a2 = 5 ∨ a2 = 6 := by omega
    rcases hS with rfl | rfl | rfl | rfl | rfl | rfl | rfl <;>
    · go_wp2_with (first
        | (go_at_call 24; refine (kC.out _ B4.out HS3.out).mono ?_; rintro e w4 ⟨rfl, hb4⟩
           have HS4 : Hid (Six w4 _ _ _ _) := HS3.out.below hb4
           have B5 : Hid (Below w.heap.size w w4) := chain B4.out hb4
           clear hb4
           obtain ⟨⟨j0, j1, j2, j3, j4⟩, j5⟩ := cells_icon HS4.out.icon))
      all_goals
        go_meet
        case rel => exact ⟨by have h := HG.out; rw [Int.max_def] at h; first | (congr 1; simp; simp at h; omega) | (simp; simp at h; omega), ⟨HS4.out, B5.out⟩⟩
  case rest =>
    obtain ⟨rfl, hx⟩ := hcut
    have HS4 : Hid (Six wc I a0 a1 a2) := hx.out.1
    have B5 : Hid (Below w.heap.size w wc) := hx.out.2
    clear hx HS HS3 B3 B4 kC kG i0 i1 i2 i3 i4 i5
    obtain ⟨⟨i0, i1, i2, i3, i4⟩, -⟩ := cells_icon HS4.out.icon
    have ifr := HS4.out.icon.frozen
    obtain ⟨⟨c0, c1, c2, c3, c4, c5, c6, c7, c8, c9, c10⟩, cf⟩ := cells_cmd HS4.out.cmd
    obtain ⟨⟨p0, p1, p2, p3⟩, pf0, pf1, pf2, pf3⟩ := cells_four HS4.out.path
    obtain ⟨⟨s0, s1, s2, s3, s4, s5, s6⟩, sf⟩ := cells_seven HS4.out.seg
    have hok : IconOk (wc.setCell ⟨I + 1 + 1 + 1 + 1 + 1, 4, none⟩ (.int .i64 1)) ⟨a0, a1, a2, .slice (some ⟨I + 1 + 1 + 1 + 1, 0, none⟩) 1 1, [⟨0, 0, 0, 5⟩], .slice (some ⟨I + 1 + 1 + 1 + 1 + 1, 0, none⟩) 1 1, [⟨1, 0, 0, ⟨0, 1, 0, ⟨0, 0⟩, ⟨0, 0⟩⟩, .slice (some ⟨I + 1 + 1, 0, none⟩) 1 1, [⟨⟨0, 0⟩, .slice (some ⟨I + 1, 0, none⟩) 1 1, [⟨1, ⟨1, 0⟩, ⟨0, 0⟩, ⟨0, 0⟩⟩], false⟩]⟩]⟩ := small_ok (HS4.out.col.far (by show I + 1 + 1 + 1 + 1 ≠ I + 1 + 1 + 1 + 1 + 1; omega) _) (HS4.out.cmd.set (j := 4) (.int .i64 1)) (small_cmd rfl rfl (HS4.out.path.far (by show I + 1 + 1 ≠ I + 1 + 1 + 1 + 1 + 1; omega) _) (small_path rfl rfl (HS4.out.seg.far (by show I + 1 ≠ I + 1 + 1 + 1 + 1 + 1; omega) _)))
    have BX : Hid (Below w.heap.size w (wc.setCell ⟨I + 1 + 1 + 1 + 1 + 1, 4, none⟩ (.int .i64 1))) := B5.out.setCell (by show w.heap.size ≤ I + 1 + 1 + 1 + 1 + 1; omega) _
    have hval : IC.chk ⟨a0, a1, a2, .slice (some ⟨I + 1 + 1 + 1 + 1, 0, none⟩) 1 1, [⟨0, 0, 0, 5⟩], .slice (some ⟨I + 1 + 1 + 1 + 1 + 1, 0, none⟩) 1 1, [⟨1, 0, 0, ⟨0, 1, 0, ⟨0, 0⟩, ⟨0, 0⟩⟩, .slice (some ⟨I + 1 + 1, 0, none⟩) 1 1, [⟨⟨0, 0⟩, .slice (some ⟨I + 1, 0, none⟩) 1 1, [⟨1, ⟨1, 0⟩, ⟨0, 0⟩, ⟨0, 0⟩⟩], false⟩]⟩]⟩ = 1 := (by have hc := errval_4 I HGb.out.1 HGb.out.2; rw [(small_chk (col := ⟨0, 0, 0, 5⟩) ha0 ha1 ha2 HG.out).2.1 (by rw [hc]; decide), hc])
    have hkC := check_any A _ _ (HE.out.three'.below BX.out) hok
    rw [hval] at hkC
    have kX : Hid (Calls Tryd.prog 24 #[.agg #[.int .i64 a0, .int .i64 a1, .int .i64 a2, .slice (some ⟨I + 1 + 1 + 1 + 1, 0, none⟩) 1 1, .slice (some ⟨I + 1 + 1 + 1 + 1 + 1, 0, none⟩) 1 1]] (wc.setCell ⟨I + 1 + 1 + 1 + 1 + 1, 4, none⟩ (.int .i64 1)) fun e w' => e = .returned (.iface 154 (.pointer (some (A 0)))) ∧ Below (wc.setCell ⟨I + 1 + 1 + 1 + 1 + 1, 4, none⟩ (.int .i64 1)).heap.size (wc.setCell ⟨I + 1 + 1 + 1 + 1 + 1, 4, none⟩ (.int .i64 1)) w') := hkC
    have hgl := HGb.out.1
    have hgr := HGb.out.2
    clear hok hval hkC
    go_wp2_with (first
      | (go_at_call 24; refine (kX.out).mono ?_; rintro e w5 ⟨rfl, hb5⟩; have B6 : Hid (Below w.heap.size w w5) := chain BX.out hb5; clear hb5)
      | (go_at_call 17; refine (is_bare A w5 (HE.out.below B6.out) 4 (by omega) (A 0) rfl 105 rfl).mono ?_; rintro e w6 ⟨rfl, hb6⟩))
    go_ret
    exact ⟨rfl, chain B6.out hb6⟩

set_option maxRecDepth 100000 in
set_option maxHeartbeats 4000000 in
theorem errors_5 (A : Nat → Addr) (a : Option Addr) (len cap : Nat) (zs : List Int) (n : Int) (w : World) (hE : Errs13 w A) (hl : len ≤ 200) (hr : IsRow .i64 w a len cap zs) (hn : (n.tmod 18 + 18).tmod 18 = 5) (hb : -18 < n.tmod 18 ∧ n.tmod 18 < 18) :
    Calls Tryd.prog 8 #[.slice a len cap, .int .i64 n] w fun e w' => e = .returned (.bool true) ∧ Below w.heap.size w w' := by
  have kf : Hid (∀ W, Below w.heap.size w W → Calls Tryd.prog 22 #[] W fun e w' => e = .returned (.bool true) ∧ Below W.heap.size W w') := fun W hb => first_any A W (hE.three'.below hb)
  have ki : Hid (∀ W, Below w.heap.size w W → Calls Tryd.prog 10 #[.pointer (some ⟨W.heap.size, 0, none⟩)] (W.alloc (.cells #[.slice a len cap, .int .i64 0] 26)) fun e w' => (∃ i : IC.Icon, e = .returned (.agg i.cells.toArray) ∧ Good i ∧ IconOk w' i) ∧ Below W.heap.size W w') := fun W hb => icon_row hr hb
  have HE : Hid (Errs13 w A) := hE
  have hli : ¬ (200 : Int) < (len : Int) := by omega
  clear hE hr
  obtain ⟨r, hr'⟩ : ∃ r, n.tmod 18 = r := ⟨_, rfl⟩
  rw [hr'] at hn hb
  go_enter Tryd.func8, Tryd.ntmps8
  go_upto_region 9 with (first
    | (go_at_call 22; refine (kf.out _ (Below.refl _ _)).mono ?_; rintro e w1 ⟨rfl, hb1⟩; have B1 : Hid (Below w.heap.size w w1) := hb1; clear hb1)
    | (go_at_call 10; refine (ki.out _ B1.out).mono ?_; rintro e w2 ⟨⟨i, rfl, hgood, hok⟩, hb2⟩
       have B2 : Hid (Below w.heap.size w w2) := chain B1.out hb2
       obtain ⟨ha0, ha1, ha2, -, -, -, -, -⟩ := hgood
       obtain ⟨adc, capc, hvc, -, -⟩ := Many.len hok.1
       obtain ⟨adm, capm, hvm, -, -⟩ := Many.len hok.2.1
       obtain ⟨a0, a1, a2, vc, cols, vm, cmds⟩ := i
       replace hvc : vc = .slice adc cols.length capc := hvc
       replace hvm : vm = .slice adm cmds.length capm := hvm
       replace ha0 : 1 ≤ a0 ∧ a0 ≤ 24 := ha0
       replace ha1 : 1 ≤ a1 ∧ a1 ≤ 24 := ha1
       replace ha2 : 0 ≤ a2 ∧ a2 ≤ 6 := ha2
       generalize cols.length = nc at hvc
       generalize cmds.length = nm at hvm
       subst hvc
       subst hvm
       clear hb2 hok
       simp only [IC.Icon.cells]))
  have hsix := six_new w2 a0 a1 a2
  generalize hV : (((((w2.alloc (.cells #[.int .i64 a0, .int .i64 a1, .int .i64 a2, .slice (some ⟨w2.heap.size + 1 + 1 + 1 + 1, 0, none⟩) 1 1, .slice (some ⟨w2.heap.size + 1 + 1 + 1 + 1 + 1, 0, none⟩) 1 1] 30)).alloc (.cells #[.int .i64 1, .int .i64 1, .int .i64 0, .int .i64 0, .int .i64 0, .int .i64 0, .int .i64 0] 60)).alloc (.cells #[.int .i64 0, .int .i64 0, .slice (some ⟨w2.heap.size + 1, 0, none⟩) 1 1, .bool false] 51)).alloc (.cells #[.int .i64 1, .int .i64 0, .int .i64 0, .int .i64 0, .int .i64 0, .int .i64 0, .int .i64 0, .int .i64 0, .int .i64 0, .int .i64 0, .slice (some ⟨w2.heap.size + 1 + 1, 0, none⟩) 1 1] 45)).alloc (.cells #[.int .u8 0, .int .u8 0, .int .u8 0, .int .u8 5] 63)).alloc (.cells #[.int .i64 1, .int .i64 0, .int .i64 0, .int .i64 0, .int .i64 0, .int .i64 0, .int .i64 0, .int .i64 0, .int .i64 0, .int .i64 0, .slice (some ⟨w2.heap.size + 1 + 1, 0, none⟩) 1 1] 45) = V at hsix ⊢
  have B3 : Hid (Below w.heap.size w V) := by rw [← hV]; exact six_below B2.out _ _ _ _ _ _
  have hwI := B2.out.size
  generalize hI : w2.heap.size = I at hsix hwI ⊢
  have HS : Hid (Six V I a0 a1 a2) := hsix
  obtain ⟨g, hg⟩ : ∃ g, 4 * max a0 a1 * 2 ^ a2.toNat = g := ⟨_, rfl⟩
  have HGb : Hid (4 ≤ g ∧ g ≤ 6144) := g_bound ha0 ha1 ha2 hg
  have HG : Hid (4 * max a0 a1 * 2 ^ a2.toNat = g) := hg
  have kG : Hid (∀ W, Calls Tryd.prog 23 #[.agg #[.int .i64 a0, .int .i64 a1, .int .i64 a2, .slice (some ⟨I + 1 + 1 + 1 + 1, 0, none⟩) 1 1, .slice (some ⟨I + 1 + 1 + 1 + 1 + 1, 0, none⟩) 1 1]] W fun e w' => e = .returned (.int .i64 g) ∧ Below W.heap.size W w') := fun W => by
    have h := greatest_any ⟨a0, a1, a2, .slice (some ⟨I + 1 + 1 + 1 + 1, 0, none⟩) 1 1, [⟨0, 0, 0, 5⟩], .slice (some ⟨I + 1 + 1 + 1 + 1 + 1, 0, none⟩) 1 1, [⟨1, 0, 0, ⟨0, 0, 0, ⟨0, 0⟩, ⟨0, 0⟩⟩, .slice (some ⟨I + 1 + 1, 0, none⟩) 1 1, [⟨⟨0, 0⟩, .slice (some ⟨I + 1, 0, none⟩) 1 1, [⟨1, ⟨1, 0⟩, ⟨0, 0⟩, ⟨0, 0⟩⟩], false⟩]⟩]⟩ W
    rw [(small_chk ha0 ha1 ha2 hg).1] at h
    exact h
  have kC : Hid (∀ W, Below w.heap.size w W → Six W I a0 a1 a2 → Calls Tryd.prog 24 #[.agg #[.int .i64 a0, .int .i64 a1, .int .i64 a2, .slice (some ⟨I + 1 + 1 + 1 + 1, 0, none⟩) 1 1, .slice (some ⟨I + 1 + 1 + 1 + 1 + 1, 0, none⟩) 1 1]] W fun e w' => e = .returned .nilIface ∧ Below W.heap.size W w') := fun W hb hs => by
    have h := check_any A ⟨a0, a1, a2, .slice (some ⟨I + 1 + 1 + 1 + 1, 0, none⟩) 1 1, [⟨0, 0, 0, 5⟩], .slice (some ⟨I + 1 + 1 + 1 + 1 + 1, 0, none⟩) 1 1, [⟨1, 0, 0, ⟨0, 0, 0, ⟨0, 0⟩, ⟨0, 0⟩⟩, .slice (some ⟨I + 1 + 1, 0, none⟩) 1 1, [⟨⟨0, 0⟩, .slice (some ⟨I + 1, 0, none⟩) 1 1, [⟨1, ⟨1, 0⟩, ⟨0, 0⟩, ⟨0, 0⟩⟩], false⟩]⟩]⟩ W (HE.out.three'.below hb) hs.ok
    rw [(small_chk ha0 ha1 ha2 hg).2.2 (small_good HGb.out.1).chk (by show (2 : Int) ≤ 4000; omega) rfl rfl] at h
    exact h
  clear hsix hV hI hg B1 B2 ki kf
  obtain ⟨⟨i0, i1, i2, i3, i4⟩, i5⟩ := cells_icon HS.out.icon
  go_upto_region 10 with (first
    | (go_at_call 23; refine (kG.out _).mono ?_; rintro e w3 ⟨rfl, hb3⟩
       have HS3 : Hid (Six w3 I a0 a1 a2) := HS.out.below hb3
       have B4 : Hid (Below w.heap.size w w3) := chain B3.out hb3
       clear hb3))
  clear i0 i1 i2 i3 i4 i5
  obtain ⟨⟨i0, i1, i2, i3, i4⟩, i5⟩ := cells_icon HS3.out.icon
  go_cut [59] from 43 (fun s x => s = .bool false ∧ Hid (Six x I a0 a1 a2 ∧ Below w.heap.size w x))
  case first =>
    have hS : a2 = 0 ∨ a2 = 1 ∨ a2 = 2 ∨ a2 = 3 ∨ a2 = 4 ∨ a2 = 5 ∨ a2 = 6 := by omega
    rcases hS with rfl | rfl | rfl | rfl | rfl | rfl | rfl <;>
    · go_wp2_with (first
        | (go_at_call 24; refine (kC.out _ B4.out HS3.out).mono ?_; rintro e w4 ⟨rfl, hb4⟩
           have HS4 : Hid (Six w4 _ _ _ _) := HS3.out.below hb4
           have B5 : Hid (Below w.heap.size w w4) := chain B4.out hb4
           clear hb4
           obtain ⟨⟨j0, j1, j2, j3, j4⟩, j5⟩ := cells_icon HS4.out.icon))
      all_goals
        go_meet
        case rel => exact ⟨by have h := HG.out; rw [Int.max_def] at h; first | (congr 1; simp; simp at h; omega) | (simp; simp at h; omega), ⟨HS4.out, B5.out⟩⟩
  case rest =>
    obtain ⟨rfl, hx⟩ := hcut
    have HS4 : Hid (Six wc I a0 a1 a2) := hx.out.1
    have B5 : Hid (Below w.heap.size w wc) := hx.out.2
    clear hx HS HS3 B3 B4 kC kG i0 i1 i2 i3 i4 i5
    obtain ⟨⟨i0, i1, i2, i3, i4⟩, -⟩ := cells_icon HS4.out.icon
    have ifr := HS4.out.icon.frozen
    obtain ⟨⟨c0, c1, c2, c3, c4, c5, c6, c7, c8, c9, c10⟩, cf⟩ := cells_cmd HS4.out.cmd
    obtain ⟨⟨p0, p1, p2, p3⟩, pf0, pf1, pf2, pf3⟩ := cells_four HS4.out.path
    obtain ⟨⟨s0, s1, s2, s3, s4, s5, s6⟩, sf⟩ := cells_seven HS4.out.seg
    have hok : IconOk (wc.setCell ⟨I + 1 + 1 + 1 + 1 + 1, 9, none⟩ (.int .i64 1)) ⟨a0, a1, a2, .slice (some ⟨I + 1 + 1 + 1 + 1, 0, none⟩) 1 1, [⟨0, 0, 0, 5⟩], .slice (some ⟨I + 1 + 1 + 1 + 1 + 1, 0, none⟩) 1 1, [⟨1, 0, 0, ⟨0, 0, 0, ⟨0, 0⟩, ⟨0, 1⟩⟩, .slice (some ⟨I + 1 + 1, 0, none⟩) 1 1, [⟨⟨0, 0⟩, .slice (some ⟨I + 1, 0, none⟩) 1 1, [⟨1, ⟨1, 0⟩, ⟨0, 0⟩, ⟨0, 0⟩⟩], false⟩]⟩]⟩ := small_ok (HS4.out.col.far (by show I + 1 + 1 + 1 + 1 ≠ I + 1 + 1 + 1 + 1 + 1; omega) _) (HS4.out.cmd.set (j := 9) (.int .i64 1)) (small_cmd rfl rfl (HS4.out.path.far (by show I + 1 + 1 ≠ I + 1 + 1 + 1 + 1 + 1; omega) _) (small_path rfl rfl (HS4.out.seg.far (by show I + 1 ≠ I + 1 + 1 + 1 + 1 + 1; omega) _)))
    have BX : Hid (Below w.heap.size w (wc.setCell ⟨I + 1 + 1 + 1 + 1 + 1, 9, none⟩ (.int .i64 1))) := B5.out.setCell (by show w.heap.size ≤ I + 1 + 1 + 1 + 1 + 1; omega) _
    have hval : IC.chk ⟨a0, a1, a2, .slice (some ⟨I + 1 + 1 + 1 + 1, 0, none⟩) 1 1, [⟨0, 0, 0, 5⟩], .slice (some ⟨I + 1 + 1 + 1 + 1 + 1, 0, none⟩) 1 1, [⟨1, 0, 0, ⟨0, 0, 0, ⟨0, 0⟩, ⟨0, 1⟩⟩, .slice (some ⟨I + 1 + 1, 0, none⟩) 1 1, [⟨⟨0, 0⟩, .slice (some ⟨I + 1, 0, none⟩) 1 1, [⟨1, ⟨1, 0⟩, ⟨0, 0⟩, ⟨0, 0⟩⟩], false⟩]⟩]⟩ = 3 := (by have hc := errval_5 I HGb.out.1 HGb.out.2; rw [(small_chk (col := ⟨0, 0, 0, 5⟩) ha0 ha1 ha2 HG.out).2.1 (by rw [hc]; decide), hc])
    have hkC := check_any A _ _ (HE.out.three'.below BX.out) hok
    rw [hval] at hkC
    have kX : Hid (Calls Tryd.prog 24 #[.agg #[.int .i64 a0, .int .i64 a1, .int .i64 a2, .slice (some ⟨I + 1 + 1 + 1 + 1, 0, none⟩) 1 1, .slice (some ⟨I + 1 + 1 + 1 + 1 + 1, 0, none⟩) 1 1]] (wc.setCell ⟨I + 1 + 1 + 1 + 1 + 1, 9, none⟩ (.int .i64 1)) fun e w' => e = .returned (.iface 154 (.pointer (some (A 2)))) ∧ Below (wc.setCell ⟨I + 1 + 1 + 1 + 1 + 1, 9, none⟩ (.int .i64 1)).heap.size (wc.setCell ⟨I + 1 + 1 + 1 + 1 + 1, 9, none⟩ (.int .i64 1)) w') := hkC
    have hgl := HGb.out.1
    have hgr := HGb.out.2
    clear hok hval hkC
    go_wp2_with (first
      | (go_at_call 24; refine (kX.out).mono ?_; rintro e w5 ⟨rfl, hb5⟩; have B6 : Hid (Below w.heap.size w w5) := chain BX.out hb5; clear hb5)
      | (go_at_call 17; refine (is_bare A w5 (HE.out.below B6.out) 9 (by omega) (A 2) rfl 110 rfl).mono ?_; rintro e w6 ⟨rfl, hb6⟩))
    go_ret
    exact ⟨rfl, chain B6.out hb6⟩

end Go.Proofs.YtofmbedjbnbjlaaDoor

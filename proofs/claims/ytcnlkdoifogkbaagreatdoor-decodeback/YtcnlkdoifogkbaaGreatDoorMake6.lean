/-
  An icon that is made of a few numbers: walked over the program.
-/
import Derived.Deep.CutBlock
import Derived.Test.YtcnlkdoifogkbaaGreatDoorMake5
namespace Go.Proofs.YtcnlkdoifogkbaaGreatDoor
open Go.RowKit

theorem hid {p : Prop} (h : p) : Hid p := h

/-- What became of the colors where one was added. -/
def AddRes (cols : List IC.Col) (x : IC.Col) (k : Nat) (cols' : List IC.Col) : Prop := (k < cols.length ∧ cols' = cols) ∨ (k = cols.length ∧ (∀ y ∈ cols, IC.sameCol y x = false) ∧ cols' = cols ++ [x])

theorem AddRes.facts {cols cols' : List IC.Col} {x : IC.Col} {k : Nat} (h : AddRes cols x k cols') : IC.place cols.length k = some (cols'.length : Int) ∧ k < cols'.length ∧ cols.length ≤ cols'.length ∧ cols'.length ≤ cols.length + 1 := by
  rcases h with ⟨h1, rfl⟩ | ⟨rfl, -, rfl⟩
  · exact ⟨place_less (by omega), h1, by omega, by omega⟩
  · refine ⟨?_, by simp, by simp, by simp⟩
    rw [place_same rfl]
    simp

theorem AddRes.good {cols cols' : List IC.Col} {x : IC.Col} {k : Nat} (h : AddRes cols x k cols') (hx : ColIn x) (h1 : ∀ c ∈ cols, ColIn c) (h2 : IC.twinsFrom [] cols = false) : (∀ c ∈ cols', ColIn c) ∧ IC.twinsFrom [] cols' = false := by
  rcases h with ⟨-, rfl⟩ | ⟨-, hn, rfl⟩
  · exact ⟨h1, h2⟩
  · refine ⟨fun c hc => ?_, ?_⟩
    · rcases List.mem_append.1 hc with h | h
      · exact h1 c h
      · obtain rfl : c = x := List.mem_singleton.1 h
        exact hx
    · rw [twins_snoc, h2]
      simp
      intro y hy
      rw [same_symm]
      exact hn y hy

/-- What is so of colors and commands, round after round. -/
structure TrOk (F : Int) (cols : List IC.Col) (cmds : List IC.Cmd) : Prop where
  colin : ∀ c ∈ cols, ColIn c
  few : cols.length ≤ 2 * cmds.length
  good : ∀ c ∈ cmds, CmdGood F cols.length c
  apart : IC.twinsFrom [] cols = false
  used : IC.usedFrom 0 cmds = some (cols.length : Int)

theorem TrOk.snoc {F : Int} {cols cols1 cols2 : List IC.Col} {cmds : List IC.Cmd} {c : IC.Cmd} {x y : IC.Col} {a b : Nat} (h : TrOk F cols cmds) (hA : AddRes cols x a cols1) (hx : ColIn x) (hB : (cols2 = cols1 ∧ b = 0) ∨ (AddRes cols1 y b cols2 ∧ ColIn y)) (ha : c.pn.a = (a : Int)) (hb : c.pn.b = (b : Int)) (hc : CmdGood F cols2.length c) : TrOk F cols2 (cmds ++ [c]) := by
  obtain ⟨a1, a2, a3, a4⟩ := hA.facts
  obtain ⟨g1, g2⟩ := hA.good hx h.colin h.apart
  have hB' : IC.place cols1.length b = some (cols2.length : Int) ∧ cols1.length ≤ cols2.length ∧ cols2.length ≤ cols1.length + 1 ∧ (∀ c ∈ cols2, ColIn c) ∧ IC.twinsFrom [] cols2 = false := by
    rcases hB with ⟨rfl, rfl⟩ | ⟨hB, hy⟩
    · exact ⟨place_less (by omega), by omega, by omega, g1, g2⟩
    · obtain ⟨b1, b2, b3, b4⟩ := hB.facts
      obtain ⟨k1, k2⟩ := hB.good hy g1 g2
      exact ⟨b1, b3, b4, k1, k2⟩
  obtain ⟨b1, b3, b4, k1, k2⟩ := hB'
  refine ⟨k1, by have := h.few; simp; omega, fun c' hc' => ?_, k2, used_snoc c _ _ cmds 0 _ h.used (by rw [ha]; exact a1) (by rw [hb]; exact b1)⟩
  rcases List.mem_append.1 hc' with h1 | h1
  · exact (h.good c' h1).mono (by omega)
  · obtain rfl : c' = c := List.mem_singleton.1 h1
    exact hc

theorem cells_cmd {w : World} {b : Nat} {k r wd pk pa pb px py qx qy : Int} {vp : Value} {paths : List IC.Path} (h : Blk w b 62 (IC.Cmd.cells ⟨k, r, wd, ⟨pk, pa, pb, ⟨px, py⟩, ⟨qx, qy⟩⟩, vp, paths⟩).toArray) : (w.cell? ⟨b, 0, none⟩ = some (.int .i64 k) ∧ w.cell? ⟨b, 1, none⟩ = some (.int .i64 r) ∧ w.cell? ⟨b, 2, none⟩ = some (.int .i64 wd) ∧ w.cell? ⟨b, 3, none⟩ = some (.int .i64 pk) ∧ w.cell? ⟨b, 4, none⟩ = some (.int .i64 pa) ∧ w.cell? ⟨b, 5, none⟩ = some (.int .i64 pb) ∧ w.cell? ⟨b, 6, none⟩ = some (.int .i64 px) ∧ w.cell? ⟨b, 7, none⟩ = some (.int .i64 py) ∧ w.cell? ⟨b, 8, none⟩ = some (.int .i64 qx) ∧ w.cell? ⟨b, 9, none⟩ = some (.int .i64 qy) ∧ w.cell? ⟨b, 10, none⟩ = some vp) ∧ ∀ j, w.frozen? ⟨b, j, none⟩ = false :=
  ⟨⟨h.cell 0, h.cell 1, h.cell 2, h.cell 3, h.cell 4, h.cell 5, h.cell 6, h.cell 7, h.cell 8, h.cell 9, h.cell 10⟩, h.frozen⟩

/-- A color added while a command is made. -/
theorem add_st {q m R ib cb : Nat} {w w' : World} {a0 a1 a2 : Int} {ad : Option Addr} {cap : Nat} {cols : List IC.Col} {adm : Option Addr} {capm : Nat} {cmds : List IC.Cmd} {adp : Option Addr} {capp : Nat} {c : IC.Cmd} (x : IC.Col)
    (h : CmSt q m R ib cb w a0 a1 a2 ad cap cols adm capm cmds adp capp c w') (hn : cols.length ≤ 1000) :
    Calls Tryz.prog 22 #[.pointer (some ⟨ib, 0, none⟩), .agg x.cells.toArray] w' fun e w'' => ∃ (k : Nat) (ad' : Option Addr) (cap' : Nat) (cols' : List IC.Col), e = .returned (.int .i64 k) ∧ AddRes cols x k cols' ∧ CmSt q m R ib cb w a0 a1 a2 ad' cap' cols' adm capm cmds adp capp c w'' := by
  refine (add_any ib (ib + 1) a0 a1 a2 ad adm cap _ capm _ cols x w' rfl hn h.ic.box h.ic.cs (by omega) (by have := h.ic.box.lt; omega)).mono ?_
  rintro e w'' ⟨k, rfl, ⟨hk, hb⟩ | ⟨rfl, hno, ad', cap', ho, ha⟩⟩
  · exact ⟨k, ad, cap, cols, rfl, .inl ⟨hk, rfl⟩, h.below hb⟩
  · exact ⟨_, ad', cap', cols ++ [x], rfl, .inr ⟨rfl, hno, rfl⟩, h.add ho ha⟩

theorem made_good {far a0 a1 a2 : Int} {vc vm : Value} {cols : List IC.Col} {cmds : List IC.Cmd} (h : TrOk (4 * far) cols cmds) (h0 : 1 ≤ a0 ∧ a0 ≤ 24) (h1 : 1 ≤ a1 ∧ a1 ≤ 24) (h2 : 0 ≤ a2 ∧ a2 ≤ 6) (hf : max a0 a1 * 2 ^ a2.toNat = far) (hc : cmds.length ≤ 4) : Good ⟨a0, a1, a2, vc, cols, vm, cmds⟩ := by
  have hs : IC.sized ⟨a0, a1, a2, vc, cols, vm, cmds⟩ = true := by
    unfold IC.sized
    rw [within_of h0.1 (by omega), within_of h1.1 (by omega), within_of h2.1 (by omega)]
    rfl
  have hg : IC.greatest ⟨a0, a1, a2, vc, cols, vm, cmds⟩ = 4 * far := by
    unfold IC.greatest
    rw [if_pos hs, ← hf, Int.mul_assoc]
  exact ⟨h0, h1, h2, h.colin, ⟨h.few, hc⟩, by rw [hg]; exact h.good, h.apart, h.used⟩

theorem paint_good {far a b n pk px py qx qy : Int} (hf : 1 ≤ far) (ha : 0 ≤ a ∧ a < n) (hk : pk = 0 ∨ pk = 1 ∨ pk = 2) (hb : (pk = 0 ∧ b = 0 ∧ px = 0 ∧ py = 0) ∨ (pk ≠ 0 ∧ (0 ≤ b ∧ b < n) ∧ PtIn far ⟨px, py⟩)) (hq : (pk = 1 ∧ PtIn (far + 1) ⟨qx, qy⟩ ∧ IC.samePt ⟨px, py⟩ ⟨qx, qy⟩ = false) ∨ (pk = 2 ∧ (1 ≤ qx ∧ qx ≤ far) ∧ qy = 0) ∨ (pk = 0 ∧ qx = 0 ∧ qy = 0)) :
    PaintGood (4 * far) n ⟨pk, a, b, ⟨px, py⟩, ⟨qx, qy⟩⟩ := by
  refine ⟨ha, ?_⟩
  rcases hk with rfl | rfl | rfl
  · left
    refine ⟨rfl, ?_, ?_, ?_⟩
    · rcases hb with h | h
      · exact h.2.1
      · exact absurd rfl h.1
    · rcases hb with h | h
      · exact h.2.2
      · exact absurd rfl h.1
    · rcases hq with h | h | h
      · exact absurd h.1 (by decide)
      · exact absurd h.1 (by decide)
      · exact h.2
  · right; left
    rcases hb with h | h
    · exact absurd h.1 (by decide)
    rcases hq with k | k | k
    · exact ⟨rfl, h.2.1, h.2.2.mono (by omega), k.2.1.mono (by omega), k.2.2⟩
    · exact absurd k.1 (by decide)
    · exact absurd k.1 (by decide)
  · right; right
    rcases hb with h | h
    · exact absurd h.1 (by decide)
    rcases hq with k | k | k
    · exact absurd k.1 (by decide)
    · exact ⟨rfl, h.2.1, h.2.2.mono (by omega), ⟨k.2.1.1, by show qx ≤ 4 * far; omega⟩, k.2.2⟩
    · exact absurd k.1 (by decide)

set_option maxRecDepth 100000 in
set_option maxHeartbeats 8000000 in
theorem icon_any (q m : Nat) (w : World) (hs : SeqOk w q m) (hm : m ≤ 10000) :
    Calls Tryz.prog 6 #[.pointer (some ⟨q, 0, none⟩)] w fun e w' => (∃ i : IC.Icon, e = .returned (.agg i.cells.toArray) ∧ Good i ∧ IconOk w' i) ∧ SeqOk w' q (m + 1000) ∧ Mk q w w' := by
  have HS : Hid (SeqOk w q m) := hs
  have hq := hs.lt
  have kn : Hid (∀ W k (b : Int), k ≤ m + 1000 → 1 ≤ b ∧ b ≤ 1000000 → SeqOk W q k → Calls Tryz.prog 20 #[.pointer (some ⟨q, 0, none⟩), .int .i64 b] W fun e w' => (∃ r : Int, e = .returned (.int .i64 r) ∧ 0 ≤ r ∧ r < b) ∧ SeqOk w' q (k + 1) ∧ Mk q W w') := fun W k b hk hb h => next_any q k b W h (by omega) (by omega)
  clear hs
  obtain ⟨R, HR⟩ : ∃ R, Hid (w.heap.size = R) := ⟨_, rfl⟩
  go_enter Tryz.func6, Tryz.ntmps6
  go_upto_region 2 with (first
    | (go_at_call 20; refine (kn.out w2 (m + 2) 7 (by omega) (by omega) K1.out).mono ?_; rintro e w3 ⟨⟨a2, rfl, z0, z1⟩, hs3, hm3⟩
       have L1 : Hid (SeqOk w3 q (m + 3)) := hs3
       have L2 : Hid (Mk q w w3) := K2.out.trans hm3
       have L3 : Hid (Blk w3 w.heap.size 27 #[.int .i64 0, .int .i64 0, .int .i64 0, .slice none 0 0, .slice none 0 0]) := K3.out.mk hm3 (by omega)
       clear hs3 hm3)
    | (go_at_call 20; refine (kn.out w1 (m + 1) 24 (by omega) (by omega) H1.out).mono ?_; rintro e w2 ⟨⟨r1, rfl, y0, y1⟩, hs2, hm2⟩
       have K1 : Hid (SeqOk w2 q (m + 2)) := hs2
       have K2 : Hid (Mk q w w2) := H2.out.trans hm2
       have K3 : Hid (Blk w2 w.heap.size 27 #[.int .i64 0, .int .i64 0, .int .i64 0, .slice none 0 0, .slice none 0 0]) := H3.out.mk hm2 (by omega)
       clear hs2 hm2)
    | (go_at_call 20; refine (kn.out _ m 24 (by omega) (by omega) (HS.out.alloc _)).mono ?_; rintro e w1 ⟨⟨r0, rfl, x0, x1⟩, hs1, hm1⟩
       have H1 : Hid (SeqOk w1 q (m + 1)) := hs1
       have H2 : Hid (Mk q w w1) := ((Mk.refl q w).alloc _).trans hm1
       have H3 : Hid (Blk w1 w.heap.size 27 #[.int .i64 0, .int .i64 0, .int .i64 0, .slice none 0 0, .slice none 0 0]) := (blk_new w 27 #[.int .i64 0, .int .i64 0, .int .i64 0, .slice none 0 0, .slice none 0 0]).mk hm1 (by omega)
       clear hs1 hm1))
  obtain ⟨a0, h0⟩ : ∃ a0, 1 + r0 = a0 := ⟨_, rfl⟩
  obtain ⟨a1, h1⟩ : ∃ a1, 1 + r1 = a1 := ⟨_, rfl⟩
  obtain ⟨ib, hib⟩ : ∃ ib, w3.heap.size = ib := ⟨_, rfl⟩
  obtain ⟨V, hV⟩ : ∃ V, w3.alloc (.cells #[.int .i64 (1 + r0), .int .i64 (1 + r1), .int .i64 a2, .slice none 0 0, .slice none 0 0] 27) = V := ⟨_, rfl⟩
  have ha0 : 1 ≤ a0 ∧ a0 ≤ 24 := by omega
  have ha1 : 1 ≤ a1 ∧ a1 ≤ 24 := by omega
  have ha2 : 0 ≤ a2 ∧ a2 ≤ 6 := by omega
  have HI : Hid (IcSt q (m + 3) R ib w a0 a1 a2 none 0 [] none 0 [] V) := by
    have hb := blk_new w3 27 #[.int .i64 (1 + r0), .int .i64 (1 + r1), .int .i64 a2, .slice none 0 0, .slice none 0 0]
    rw [hV, hib, h0, h1] at hb
    have hL3 := L3.out
    have hR := HR.out
    rw [hR] at hL3
    exact ⟨hV ▸ L1.out.alloc _, hV ▸ hL3.alloc _, hb, own_nil _ _ _ _ _, own_nil _ _ _ _ _, fun _ h => absurd h (by simp), hV ▸ L2.out.alloc _, by omega, by have := hL3.lt; omega, by omega⟩
  rw [hV, h0, h1, hib, HR.out]
  clear hV h0 h1 x0 x1 y0 y1 z0 z1 H1 H2 H3 K1 K2 K3 L1 L2 L3
  obtain ⟨far, hfar⟩ : ∃ far, max a0 a1 * 2 ^ a2.toNat = far := ⟨_, rfl⟩
  have hf : 1 ≤ far ∧ far ≤ 1536 := by
    have h1 : 1 ≤ max a0 a1 ∧ max a0 a1 ≤ 24 := by rw [Int.max_def]; split <;> omega
    have h2 : a2.toNat = 0 ∨ a2.toNat = 1 ∨ a2.toNat = 2 ∨ a2.toNat = 3 ∨ a2.toNat = 4 ∨ a2.toNat = 5 ∨ a2.toNat = 6 := by omega
    generalize max a0 a1 = x at h1 hfar
    rcases h2 with e | e | e | e | e | e | e <;> rw [e] at hfar <;> simp only [Int.reducePow] at hfar <;> omega
  have HFar : Hid (max a0 a1 * 2 ^ a2.toNat = far) := hfar
  clear hfar
  go_cut [4] from 17 (fun s x => s = .int .i64 far ∧ V = x)
  case first =>
    obtain ⟨⟨i0, i1, i2, i3, i4⟩, i5⟩ := cells_icon HI.out.box
    have hS : a2 = 0 ∨ a2 = 1 ∨ a2 = 2 ∨ a2 = 3 ∨ a2 = 4 ∨ a2 = 5 ∨ a2 = 6 := by omega
    rcases hS with rfl | rfl | rfl | rfl | rfl | rfl | rfl <;>
    · go_wp2
      all_goals
        go_meet
        case rel => exact ⟨by rw [← HFar.out, Int.max_def]; split <;> first | (simp; done) | (simp; omega), rfl⟩
  case rest =>
    obtain ⟨rfl, rfl⟩ := hcut
    have HFF : Hid (4 * far = 4 * far) := rfl
    have kpt : Hid (∀ W k, k ≤ m + 1000 → SeqOk W q k → Calls Tryz.prog 24 #[.pointer (some ⟨q, 0, none⟩), .int .i64 far] W fun e w' => (∃ x y : Int, e = .returned (.agg #[.int .i64 x, .int .i64 y]) ∧ (-far ≤ x ∧ x ≤ far) ∧ (-far ≤ y ∧ y ≤ far)) ∧ SeqOk w' q (k + 2) ∧ Mk q W w') := fun W k hk h => point_any q k far W h (by omega) (by omega)
    have kcl : Hid (∀ W k, k ≤ m + 1000 → SeqOk W q k → Calls Tryz.prog 23 #[.pointer (some ⟨q, 0, none⟩)] W fun e w' => (∃ c : IC.Col, e = .returned (.agg c.cells.toArray) ∧ ColIn c) ∧ SeqOk w' q (k + 1) ∧ Mk q W w') := fun W k hk h => color_any q k W h (by omega)
    have kmr : Hid (∀ W k, SeqOk W q k → Calls Tryz.prog 21 #[.pointer (some ⟨q, 0, none⟩)] W fun e w' => (∃ b : Bool, e = .returned (.bool b)) ∧ SeqOk w' q k ∧ Below W.heap.size W w') := fun W k h => more_any q k W h
    have kph : Hid (∀ W k (cl : Bool), k ≤ m + 1000 → SeqOk W q k → Calls Tryz.prog 26 #[.pointer (some ⟨q, 0, none⟩), .int .i64 far, .bool cl] W fun e w' => (∃ p : IC.Path, e = .returned (.agg p.cells.toArray) ∧ p.cl = cl ∧ PtIn far p.st ∧ 1 ≤ p.segs.length ∧ p.segs.length ≤ 4 ∧ (∀ s ∈ p.segs, SegGood far s) ∧ PathOk w' p) ∧ SeqOk w' q (k + 50) ∧ Mk q W w') := fun W k cl hk h => mkpath_any q k far cl W h (by omega) (by omega)
    have f0 := hf.1
    have f1 := hf.2
    clear hf HFF
    go_wp2_with (first
      | (go_at_call 20; refine (kn.out _ (m + 3) 4 (by omega) (by omega) HI.out.seq).mono ?_; rintro e u1 ⟨⟨r, rfl, r_0, r_1⟩, hsn, hmn⟩
         have HI1 : Hid (IcSt q (m + 4) R ib w a0 a1 a2 none 0 [] none 0 [] u1) := HI.out.next hmn hsn
         clear hsn hmn))
    obtain ⟨N, hN⟩ : ∃ N : Nat, r = (N : Int) - 1 := ⟨(r + 1).toNat, by omega⟩
    subst hN
    have hN4 : N ≤ 4 := by omega
    clear HI r_0 r_1
    go_loopw [5] (fun i wr => ∃ (k cap capm : Nat) (ad adm : Option Addr) (cols : List IC.Col) (cmds : List IC.Cmd), i = .int .i64 ((k : Int) - 1) ∧ k + cmds.length ≤ 4 ∧ Hid (TrOk (4 * far) cols cmds) ∧ Hid (IcSt q (m + 4 + 200 * cmds.length) R ib w a0 a1 a2 ad cap cols adm capm cmds wr)) (fun i _ => (intOf i + 1).toNat)
    case atStart => exact ⟨N, 0, 0, none, none, [], [], by go_num, by simpa using hN4, ⟨fun _ h => absurd h (by simp), by simp, fun _ h => absurd h (by simp), rfl, rfl⟩, HI1⟩
    case round =>
      clear HI1 hN4
      obtain ⟨k, cap, capm, ad, adm, cols, cmds, rfl, hkl, HTR, HI⟩ := hrel
      rename World => wa
      by_cases hk0 : 0 < k
      case neg =>
        obtain rfl : k = 0 := by omega
        obtain ⟨⟨i0, i1, i2, i3, i4⟩, -⟩ := cells_icon HI.out.box
        obtain ⟨⟨o0, o1, o2, o3, o4⟩, -⟩ := cells_icon HI.out.res
        have ofr := HI.out.res.frozen
        go_wp2
        obtain ⟨t1, t2, t3⟩ := HI.out.out (.int .i64 a0) (.int .i64 a1) (.int .i64 a2) (.slice ad cols.length cap) (.slice adm cmds.length capm)
        refine bodyPost_ret (v := .agg #[.int .i64 a0, .int .i64 a1, .int .i64 a2, .slice ad cols.length cap, .slice adm cmds.length capm]) (by simp [results, Tryz.results6, go_sem, o0, o1, o2, o3, o4]) rfl ⟨⟨⟨a0, a1, a2, .slice ad cols.length cap, cols, .slice adm cmds.length capm, cmds⟩, rfl, ?_, t1⟩, t2.mono (by omega), t3⟩
        exact made_good HTR.out ha0 ha1 ha2 HFar.out (by omega)
      have hki : (0 : Int) ≤ (k : Int) - 1 := by omega
      go_upto_if 33 with (first
        | (go_at_call 21; refine (kmr.out _ _ HI.out.seq).mono ?_; rintro e u2 ⟨⟨b, rfl⟩, hs2, hb2⟩
           have HI2 : Hid (IcSt q (m + 4 + 200 * cmds.length) R ib w a0 a1 a2 ad cap cols adm capm cmds u2) := HI.out.next (Mk.below hb2) hs2
           clear hs2 hb2))
      cases b
      case false =>
        obtain ⟨⟨i0, i1, i2, i3, i4⟩, -⟩ := cells_icon HI2.out.box
        obtain ⟨⟨o0, o1, o2, o3, o4⟩, -⟩ := cells_icon HI2.out.res
        have ofr := HI2.out.res.frozen
        go_wp2
        obtain ⟨t1, t2, t3⟩ := HI2.out.out (.int .i64 a0) (.int .i64 a1) (.int .i64 a2) (.slice ad cols.length cap) (.slice adm cmds.length capm)
        refine bodyPost_ret (v := .agg #[.int .i64 a0, .int .i64 a1, .int .i64 a2, .slice ad cols.length cap, .slice adm cmds.length capm]) (by simp [results, Tryz.results6, go_sem, o0, o1, o2, o3, o4]) rfl ⟨⟨⟨a0, a1, a2, .slice ad cols.length cap, cols, .slice adm cmds.length capm, cmds⟩, rfl, ?_, t1⟩, t2.mono (by omega), t3⟩
        exact made_good HTR.out ha0 ha1 ha2 HFar.out (by omega)
      clear HI
      go_upto_if 42 with (first
        | (go_at_call 20; refine (kn.out _ (m + 4 + 200 * cmds.length) 2 (by omega) (by omega) HI2.out.seq).mono ?_; rintro e u3 ⟨⟨r, rfl, r_0, r_1⟩, hsn, hmn⟩
           have HI3 : Hid (IcSt q (m + 4 + 200 * cmds.length + 1) R ib w a0 a1 a2 ad cap cols adm capm cmds u3) := HI2.out.next hmn hsn
           clear hsn hmn))
      obtain ⟨K, hK⟩ : ∃ K, 1 + r = K := ⟨_, rfl⟩
      have hK12 : K = 1 ∨ K = 2 := by omega
      obtain ⟨cb, hcb⟩ : ∃ cb, u3.heap.size = cb := ⟨_, rfl⟩
      obtain ⟨x1, hx1⟩ : ∃ x, u3.alloc (.cells #[.int .i64 (1 + r), .int .i64 0, .int .i64 0, .int .i64 0, .int .i64 0, .int .i64 0, .int .i64 0, .int .i64 0, .int .i64 0, .int .i64 0, .slice none 0 0] 62) = x := ⟨_, rfl⟩
      have HC1 : Hid (CmSt q (m + 4 + 200 * cmds.length + 1) R ib cb w a0 a1 a2 ad cap cols adm capm cmds none 0 ⟨K, 0, 0, ⟨0, 0, 0, ⟨0, 0⟩, ⟨0, 0⟩⟩, .slice none 0 0, []⟩ x1) := by
        have h := HI3.out.box_new (c := ⟨K, 0, 0, ⟨0, 0, 0, ⟨0, 0⟩, ⟨0, 0⟩⟩, .slice none 0 0, []⟩) rfl rfl
        rw [hcb] at h
        rw [← hx1, hK]
        exact h
      rw [hx1, hK, hcb]
      clear hx1 hK hcb HI2 HI3 r_0 r_1
      obtain ⟨⟨c0, c1, c2, c3, c4, c5, c6, c7, c8, c9, c10⟩, cf⟩ := cells_cmd HC1.out.cbx
      go_cut [] from 43 to 138 (fun x => ∃ cr cw : Int, HeadGood (4 * far) ⟨K, cr, cw, ⟨0, 0, 0, ⟨0, 0⟩, ⟨0, 0⟩⟩, .slice none 0 0, []⟩ ∧ CmSt q (m + 4 + 200 * cmds.length + 2) R ib cb w a0 a1 a2 ad cap cols adm capm cmds none 0 ⟨K, cr, cw, ⟨0, 0, 0, ⟨0, 0⟩, ⟨0, 0⟩⟩, .slice none 0 0, []⟩ x)
      case first =>
        rcases hK12 with rfl | rfl
        · go_wp2_with (first
            | (go_at_call 20; refine (kn.out _ (m + 4 + 200 * cmds.length + 1) 2 (by omega) (by omega) HC1.out.ic.seq).mono ?_; rintro e u4 ⟨⟨r, rfl, r_0, r_1⟩, hsn, hmn⟩
               have HC2 : Hid (CmSt q (m + 4 + 200 * cmds.length + 2) R ib cb w a0 a1 a2 ad cap cols adm capm cmds none 0 ⟨1, 0, 0, ⟨0, 0, 0, ⟨0, 0⟩, ⟨0, 0⟩⟩, .slice none 0 0, []⟩ u4) := HC1.out.next hmn hsn
               obtain ⟨⟨d0, d1, d2, d3, d4, d5, d6, d7, d8, d9, d10⟩, df⟩ := cells_cmd HC2.out.cbx
               clear hsn hmn))
          go_meet
          case rel => exact ⟨r, 0, .inl ⟨rfl, by show r = 0 ∨ r = 1; omega, rfl⟩, HC2.out.set 1 _ rfl rfl rfl⟩
        · go_wp2_with (first
            | (go_at_call 20; refine (kn.out _ (m + 4 + 200 * cmds.length + 1) _ (by omega) (by omega) HC1.out.ic.seq).mono ?_; rintro e u4 ⟨⟨r, rfl, r_0, r_1⟩, hsn, hmn⟩
               have HC2 : Hid (CmSt q (m + 4 + 200 * cmds.length + 2) R ib cb w a0 a1 a2 ad cap cols adm capm cmds none 0 ⟨2, 0, 0, ⟨0, 0, 0, ⟨0, 0⟩, ⟨0, 0⟩⟩, .slice none 0 0, []⟩ u4) := HC1.out.next hmn hsn
               obtain ⟨⟨d0, d1, d2, d3, d4, d5, d6, d7, d8, d9, d10⟩, df⟩ := cells_cmd HC2.out.cbx
               clear hsn hmn))
          all_goals
            go_meet
            case rel => exact ⟨0, 1 + r, .inr ⟨rfl, rfl, by show 1 ≤ 1 + r; omega, by show 1 + r ≤ 4 * far; omega⟩, HC2.out.set 2 _ rfl rfl rfl⟩
      case rest =>
        obtain ⟨cr, cw, hhead, hst⟩ := hcut
        have HH : Hid (HeadGood (4 * far) ⟨K, cr, cw, ⟨0, 0, 0, ⟨0, 0⟩, ⟨0, 0⟩⟩, .slice none 0 0, []⟩) := hhead
        have HC2 : Hid (CmSt q (m + 4 + 200 * cmds.length + 2) R ib cb w a0 a1 a2 ad cap cols adm capm cmds none 0 ⟨K, cr, cw, ⟨0, 0, 0, ⟨0, 0⟩, ⟨0, 0⟩⟩, .slice none 0 0, []⟩ wc) := hst
        clear hhead hst HC1 c0 c1 c2 c3 c4 c5 c6 c7 c8 c9 c10 cf
        obtain ⟨⟨c0, c1, c2, c3, c4, c5, c6, c7, c8, c9, c10⟩, cf⟩ := cells_cmd HC2.out.cbx
        go_upto_if 65 with (first
          | (go_at_call 20; refine (kn.out _ (m + 4 + 200 * cmds.length + 2) 3 (by omega) (by omega) HC2.out.ic.seq).mono ?_; rintro e u5 ⟨⟨pk, rfl, pk_0, pk_1⟩, hsn, hmn⟩
             have HC3a : Hid (CmSt q (m + 4 + 200 * cmds.length + 3) R ib cb w a0 a1 a2 ad cap cols adm capm cmds none 0 ⟨K, cr, cw, ⟨0, 0, 0, ⟨0, 0⟩, ⟨0, 0⟩⟩, .slice none 0 0, []⟩ u5) := HC2.out.next hmn hsn
             obtain ⟨⟨d0, d1, d2, d3, d4, d5, d6, d7, d8, d9, d10⟩, df⟩ := cells_cmd HC3a.out.cbx
             have HC3 : Hid (CmSt q (m + 4 + 200 * cmds.length + 3) R ib cb w a0 a1 a2 ad cap cols adm capm cmds none 0 ⟨K, cr, cw, ⟨pk, 0, 0, ⟨0, 0⟩, ⟨0, 0⟩⟩, .slice none 0 0, []⟩ (u5.setCell ⟨cb, 3, none⟩ (.int .i64 pk))) := HC3a.out.set 3 _ rfl rfl rfl
             clear c0 c1 c2 c3 c4 c5 c6 c7 c8 c9 c10 cf
             clear hsn hmn)
          | (go_at_call 23; refine (kcl.out _ (m + 4 + 200 * cmds.length + 3) (by omega) HC3.out.ic.seq).mono ?_; rintro e u6 ⟨⟨x, rfl, hxin⟩, hsn, hmn⟩
             have HC4 : Hid (CmSt q (m + 4 + 200 * cmds.length + 4) R ib cb w a0 a1 a2 ad cap cols adm capm cmds none 0 ⟨K, cr, cw, ⟨pk, 0, 0, ⟨0, 0⟩, ⟨0, 0⟩⟩, .slice none 0 0, []⟩ u6) := HC3.out.next hmn hsn
             have HXin : Hid (ColIn x) := hxin
             obtain ⟨xr, xg, xb, xa⟩ := x
             clear hsn hmn hxin d0 d1 d2 d3 d4 d5 d6 d7 d8 d9 d10 df)
          | (go_at_call 22; refine (add_st ⟨xr, xg, xb, xa⟩ HC4.out (by have := HTR.out.few; omega)).mono ?_; rintro e u7 ⟨a, ad1, cap1, cols1, rfl, hadd, hst⟩
             have HAdd : Hid (AddRes cols ⟨xr, xg, xb, xa⟩ a cols1) := hadd
             have HC5a : Hid (CmSt q (m + 4 + 200 * cmds.length + 4) R ib cb w a0 a1 a2 ad1 cap1 cols1 adm capm cmds none 0 ⟨K, cr, cw, ⟨pk, 0, 0, ⟨0, 0⟩, ⟨0, 0⟩⟩, .slice none 0 0, []⟩ u7) := hst
             obtain ⟨⟨g0, g1, g2, g3, g4, g5, g6, g7, g8, g9, g10⟩, gf⟩ := cells_cmd HC5a.out.cbx
             have HC5 : Hid (CmSt q (m + 4 + 200 * cmds.length + 4) R ib cb w a0 a1 a2 ad1 cap1 cols1 adm capm cmds none 0 ⟨K, cr, cw, ⟨pk, a, 0, ⟨0, 0⟩, ⟨0, 0⟩⟩, .slice none 0 0, []⟩ (u7.setCell ⟨cb, 4, none⟩ (.int .i64 a))) := HC5a.out.set 4 _ rfl rfl rfl
             clear hadd hst))
        obtain ⟨wd5, hwd5⟩ : ∃ W, u7.setCell ⟨cb, 4, none⟩ (.int .i64 a) = W := ⟨_, rfl⟩
        rw [hwd5] at HC5 ⊢
        clear hwd5 HC3a HC3 HC4 HC5a g0 g1 g2 g3 g4 g5 g6 g7 g8 g9 g10 gf
        obtain ⟨⟨c0, c1, c2, c3, c4, c5, c6, c7, c8, c9, c10⟩, cf⟩ := cells_cmd HC5.out.cbx
        have hpk : pk = 0 ∨ pk = 1 ∨ pk = 2 := by omega
        have HP1 : Hid (pk = 0 ∨ pk = 1 ∨ pk = 2) := hpk
        go_cut [] from 65 to 138 (fun x => Hid (∃ (b : Nat) (px py : Int) (ad2 : Option Addr) (cap2 : Nat) (cols2 : List IC.Col), ((pk = 0 ∧ b = 0 ∧ px = 0 ∧ py = 0 ∧ cols2 = cols1) ∨ (pk ≠ 0 ∧ (∃ y, AddRes cols1 y b cols2 ∧ ColIn y) ∧ PtIn far ⟨px, py⟩)) ∧ CmSt q (m + 4 + 200 * cmds.length + 7) R ib cb w a0 a1 a2 ad2 cap2 cols2 adm capm cmds none 0 ⟨K, cr, cw, ⟨pk, a, b, ⟨px, py⟩, ⟨0, 0⟩⟩, .slice none 0 0, []⟩ x))
        case first =>
          by_cases hp0 : pk = 0
          · subst hp0
            go_wp2
            go_meet
            case rel => exact hid ⟨0, 0, 0, ad1, cap1, cols1, .inl ⟨by trivial, by trivial, by trivial, by trivial, by trivial⟩, HC5.out.mono (by omega)⟩
          · have hpne : (pk == 0) = false := by simp; exact hp0
            have HP0 : Hid (pk ≠ 0) := hp0
            clear hp0
            go_wp2_with (first
              | (go_at_call 23; refine (kcl.out _ (m + 4 + 200 * cmds.length + 4) (by omega) HC5.out.ic.seq).mono ?_; rintro e v1 ⟨⟨y, rfl, hyin⟩, hsn, hmn⟩
                 have HC6 : Hid (CmSt q (m + 4 + 200 * cmds.length + 5) R ib cb w a0 a1 a2 ad1 cap1 cols1 adm capm cmds none 0 ⟨K, cr, cw, ⟨pk, a, 0, ⟨0, 0⟩, ⟨0, 0⟩⟩, .slice none 0 0, []⟩ v1) := HC5.out.next hmn hsn
                 have hYin : Hid (ColIn y) := hyin
                 obtain ⟨yr, yg, yb, ya⟩ := y
                 clear hsn hmn hyin)
              | (go_at_call 22; refine (add_st ⟨yr, yg, yb, ya⟩ HC6.out (by have := HTR.out.few; have := HAdd.out.facts; omega)).mono ?_; rintro e v2 ⟨b, ad2, cap2, cols2, rfl, hadd, hst⟩
                 have hY : Hid (AddRes cols1 ⟨yr, yg, yb, ya⟩ b cols2) := hadd
                 have HC7a : Hid (CmSt q (m + 4 + 200 * cmds.length + 5) R ib cb w a0 a1 a2 ad2 cap2 cols2 adm capm cmds none 0 ⟨K, cr, cw, ⟨pk, a, 0, ⟨0, 0⟩, ⟨0, 0⟩⟩, .slice none 0 0, []⟩ v2) := hst
                 obtain ⟨⟨g0, g1, g2, g3, g4, g5, g6, g7, g8, g9, g10⟩, gf⟩ := cells_cmd HC7a.out.cbx
                 have HC7 : Hid (CmSt q (m + 4 + 200 * cmds.length + 5) R ib cb w a0 a1 a2 ad2 cap2 cols2 adm capm cmds none 0 ⟨K, cr, cw, ⟨pk, a, b, ⟨0, 0⟩, ⟨0, 0⟩⟩, .slice none 0 0, []⟩ (v2.setCell ⟨cb, 5, none⟩ (.int .i64 b))) := HC7a.out.set 5 _ rfl rfl rfl
                 clear hadd hst)
              | (go_at_call 24; refine (kpt.out _ (m + 4 + 200 * cmds.length + 5) (by omega) HC7.out.ic.seq).mono ?_; rintro e v3 ⟨⟨px, py, rfl, hpx, hpy⟩, hsn, hmn⟩
                 have HC8 : Hid (CmSt q (m + 4 + 200 * cmds.length + 7) R ib cb w a0 a1 a2 ad2 cap2 cols2 adm capm cmds none 0 ⟨K, cr, cw, ⟨pk, a, b, ⟨0, 0⟩, ⟨0, 0⟩⟩, .slice none 0 0, []⟩ v3) := HC7.out.next hmn hsn
                 have HPT : Hid (PtIn far ⟨px, py⟩) := ⟨hpx, hpy⟩
                 obtain ⟨⟨k0, k1, k2, k3, k4, k5, k6, k7, k8, k9, k10⟩, kf⟩ := cells_cmd HC8.out.cbx
                 clear hsn hmn hpx hpy g0 g1 g2 g3 g4 g5 g6 g7 g8 g9 g10 gf))
            go_meet
            case rel => exact hid ⟨b, px, py, ad2, cap2, cols2, .inr ⟨HP0.out, ⟨⟨yr, yg, yb, ya⟩, hY.out, hYin.out⟩, HPT.out⟩, (HC8.out.set (c' := ⟨K, cr, cw, ⟨pk, a, b, ⟨px, 0⟩, ⟨0, 0⟩⟩, .slice none 0 0, []⟩) 6 _ rfl rfl rfl).set 7 _ rfl rfl rfl⟩
        case rest =>
          obtain ⟨b, px, py, ad2, cap2, cols2, hb5, hst⟩ := hcut.out
          have HB5 : Hid ((pk = 0 ∧ b = 0 ∧ px = 0 ∧ py = 0 ∧ cols2 = cols1) ∨ (pk ≠ 0 ∧ (∃ y, AddRes cols1 y b cols2 ∧ ColIn y) ∧ PtIn far ⟨px, py⟩)) := hb5
          have HC6 : Hid (CmSt q (m + 4 + 200 * cmds.length + 7) R ib cb w a0 a1 a2 ad2 cap2 cols2 adm capm cmds none 0 ⟨K, cr, cw, ⟨pk, a, b, ⟨px, py⟩, ⟨0, 0⟩⟩, .slice none 0 0, []⟩ wc) := hst
          clear hb5 hst HC2 HC5
          rename World => wd6
          clear c0 c1 c2 c3 c4 c5 c6 c7 c8 c9 c10 cf
          obtain ⟨⟨c0, c1, c2, c3, c4, c5, c6, c7, c8, c9, c10⟩, cf⟩ := cells_cmd HC6.out.cbx
          go_upto_if 79 with fail
          go_cut [] from 79 to 138 (fun x => Hid (∃ (qx qy : Int), ((pk = 1 ∧ PtIn (far + 1) ⟨qx, qy⟩ ∧ IC.samePt ⟨px, py⟩ ⟨qx, qy⟩ = false) ∨ (pk ≠ 1 ∧ qx = 0 ∧ qy = 0)) ∧ CmSt q (m + 4 + 200 * cmds.length + 9) R ib cb w a0 a1 a2 ad2 cap2 cols2 adm capm cmds none 0 ⟨K, cr, cw, ⟨pk, a, b, ⟨px, py⟩, ⟨qx, qy⟩⟩, .slice none 0 0, []⟩ x))
          case first =>
            by_cases hp1 : pk = 1
            · subst hp1
              go_upto_if 91 with (first
                | (go_at_call 24; refine (kpt.out _ (m + 4 + 200 * cmds.length + 7) (by omega) HC6.out.ic.seq).mono ?_; rintro e v1 ⟨⟨qx, qy, rfl, hqx, hqy⟩, hsn, hmn⟩
                   have HC7a : Hid (CmSt q (m + 4 + 200 * cmds.length + 9) R ib cb w a0 a1 a2 ad2 cap2 cols2 adm capm cmds none 0 ⟨K, cr, cw, ⟨1, a, b, ⟨px, py⟩, ⟨0, 0⟩⟩, .slice none 0 0, []⟩ v1) := HC6.out.next hmn hsn
                   obtain ⟨⟨g0, g1, g2, g3, g4, g5, g6, g7, g8, g9, g10⟩, gf⟩ := cells_cmd HC7a.out.cbx
                   have HC7 : Hid (CmSt q (m + 4 + 200 * cmds.length + 9) R ib cb w a0 a1 a2 ad2 cap2 cols2 adm capm cmds none 0 ⟨K, cr, cw, ⟨1, a, b, ⟨px, py⟩, ⟨qx, qy⟩⟩, .slice none 0 0, []⟩ ((v1.setCell ⟨cb, 8, none⟩ (.int .i64 qx)).setCell ⟨cb, 9, none⟩ (.int .i64 qy))) := (HC7a.out.set (c' := ⟨K, cr, cw, ⟨1, a, b, ⟨px, py⟩, ⟨qx, 0⟩⟩, .slice none 0 0, []⟩) 8 _ rfl rfl rfl).set 9 _ rfl rfl rfl
                   clear hsn hmn c0 c1 c2 c3 c4 c5 c6 c7 c8 c9 c10 cf)
                | (go_at_call 25; refine (samept_any px py qx qy _).mono ?_; rintro e v2 ⟨rfl, hb2⟩
                   have HC9 : Hid (CmSt q (m + 4 + 200 * cmds.length + 9) R ib cb w a0 a1 a2 ad2 cap2 cols2 adm capm cmds none 0 ⟨K, cr, cw, ⟨1, a, b, ⟨px, py⟩, ⟨qx, qy⟩⟩, .slice none 0 0, []⟩ v2) := HC7.out.below hb2
                   obtain ⟨⟨k0, k1, k2, k3, k4, k5, k6, k7, k8, k9, k10⟩, kf⟩ := cells_cmd HC9.out.cbx
                   clear hb2 g0 g1 g2 g3 g4 g5 g6 g7 g8 g9 g10 gf))
              have HPQ : Hid (PtIn far ⟨qx, qy⟩) := ⟨hqx, hqy⟩
              cases hsame : ((px == qx) && (py == qy))
              · have HS0 : Hid (IC.samePt ⟨px, py⟩ ⟨qx, qy⟩ = false) := hsame
                have hs2 : ¬ (px = qx ∧ py = qy) := by simpa using hsame
                go_wp2
                go_meet
                case rel => exact hid ⟨qx, qy, .inl ⟨by trivial, HPQ.out.mono (by omega), HS0.out⟩, HC9.out⟩
              · have hs2 : px = qx ∧ py = qy := by simpa using hsame
                have HS1 : Hid (IC.samePt ⟨px, py⟩ ⟨qx + 1, qy⟩ = false) := by
                  have h := hs2.1
                  show ((px == qx + 1) && (py == qy)) = false
                  have : (px == qx + 1) = false := by simp; omega
                  rw [this]; rfl
                have hqr : qx ≤ far := hqx.2
                have hql : -far ≤ qx := hqx.1
                go_wp2
                go_meet
                case rel => exact hid ⟨qx + 1, qy, .inl ⟨by trivial, (by have := HPQ.out; unfold PtIn at *; simp at *; omega), HS1.out⟩, HC9.out.set 8 _ rfl rfl rfl⟩
            · have hpne : (pk == 1) = false := by simp; exact hp1
              have HP0 : Hid (pk ≠ 1) := hp1
              clear hp1
              go_wp2
              go_meet
              case rel => exact hid ⟨0, 0, .inr ⟨HP0.out, rfl, rfl⟩, HC6.out.mono (by omega)⟩
          case rest =>
            obtain ⟨qx, qy, hq6, hst⟩ := hcut.out
            have HQ6 : Hid ((pk = 1 ∧ PtIn (far + 1) ⟨qx, qy⟩ ∧ IC.samePt ⟨px, py⟩ ⟨qx, qy⟩ = false) ∨ (pk ≠ 1 ∧ qx = 0 ∧ qy = 0)) := hq6
            have HC7 : Hid (CmSt q (m + 4 + 200 * cmds.length + 9) R ib cb w a0 a1 a2 ad2 cap2 cols2 adm capm cmds none 0 ⟨K, cr, cw, ⟨pk, a, b, ⟨px, py⟩, ⟨qx, qy⟩⟩, .slice none 0 0, []⟩ wc) := hst
            clear hq6 hst HC6 c0 c1 c2 c3 c4 c5 c6 c7 c8 c9 c10 cf
            rename World => wd7
            obtain ⟨⟨c0, c1, c2, c3, c4, c5, c6, c7, c8, c9, c10⟩, cf⟩ := cells_cmd HC7.out.cbx
            go_upto_if 103 with fail
            go_cut [] from 103 to 138 (fun x => Hid (∃ (qz : Int), ((pk = 2 ∧ 1 ≤ qz ∧ qz ≤ far) ∨ (pk ≠ 2 ∧ qz = qx)) ∧ CmSt q (m + 4 + 200 * cmds.length + 10) R ib cb w a0 a1 a2 ad2 cap2 cols2 adm capm cmds none 0 ⟨K, cr, cw, ⟨pk, a, b, ⟨px, py⟩, ⟨qz, qy⟩⟩, .slice none 0 0, []⟩ x))
            case first =>
              by_cases hp2 : pk = 2
              · subst hp2
                go_wp2_with (first
                  | (go_at_call 20; refine (kn.out _ (m + 4 + 200 * cmds.length + 9) far (by omega) (by omega) HC7.out.ic.seq).mono ?_; rintro e v1 ⟨⟨r, rfl, r_0, r_1⟩, hsn, hmn⟩
                     have HC8 : Hid (CmSt q (m + 4 + 200 * cmds.length + 10) R ib cb w a0 a1 a2 ad2 cap2 cols2 adm capm cmds none 0 ⟨K, cr, cw, ⟨2, a, b, ⟨px, py⟩, ⟨qx, qy⟩⟩, .slice none 0 0, []⟩ v1) := HC7.out.next hmn hsn
                     obtain ⟨⟨g0, g1, g2, g3, g4, g5, g6, g7, g8, g9, g10⟩, gf⟩ := cells_cmd HC8.out.cbx
                     clear hsn hmn))
                go_meet
                case rel => exact hid ⟨1 + r, .inl ⟨by trivial, by omega, by omega⟩, HC8.out.set 8 _ rfl rfl rfl⟩
              · have hpne : (pk == 2) = false := by simp; exact hp2
                have HP0 : Hid (pk ≠ 2) := hp2
                clear hp2
                go_wp2
                go_meet
                case rel => exact hid ⟨qx, .inr ⟨HP0.out, rfl⟩, HC7.out.mono (by omega)⟩
            case rest =>
              obtain ⟨qz, hq8, hst⟩ := hcut.out
              have HC8 : Hid (CmSt q (m + 4 + 200 * cmds.length + 10) R ib cb w a0 a1 a2 ad2 cap2 cols2 adm capm cmds none 0 ⟨K, cr, cw, ⟨pk, a, b, ⟨px, py⟩, ⟨qz, qy⟩⟩, .slice none 0 0, []⟩ wc) := hst
              have hAf := HAdd.out.facts
              have hPG : PaintGood (4 * far) cols2.length ⟨pk, a, b, ⟨px, py⟩, ⟨qz, qy⟩⟩ := by
                have hb' := HB5.out
                have hq' := HQ6.out
                refine paint_good f0 ?_ HP1.out ?_ ?_
                · rcases hb' with ⟨-, -, -, -, rfl⟩ | ⟨-, ⟨y, hy, -⟩, -⟩
                  · omega
                  · have := hy.facts; omega
                · rcases hb' with ⟨h1, h2, h3, h4, -⟩ | ⟨h1, ⟨y, hy, -⟩, h3⟩
                  · exact .inl ⟨h1, by rw [h2]; rfl, h3, h4⟩
                  · exact .inr ⟨h1, by have := hy.facts; omega, h3⟩
                · rcases hq8 with ⟨h1, h2, h3⟩ | ⟨h1, h2⟩
                  · rcases hq' with ⟨k1, -, -⟩ | ⟨-, k2, k3⟩
                    · rw [h1] at k1; cases k1
                    · exact .inr (.inl ⟨h1, ⟨h2, h3⟩, k3⟩)
                  · rcases hq' with ⟨k1, k2, k3⟩ | ⟨k1, k2, k3⟩
                    · exact .inl ⟨k1, by rw [h2]; exact k2, by rw [h2]; exact k3⟩
                    · have := HP1.out
                      exact .inr (.inr ⟨by omega, by rw [h2]; exact k2, k3⟩)
              have HPG : Hid (PaintGood (4 * far) cols2.length ⟨pk, a, b, ⟨px, py⟩, ⟨qz, qy⟩⟩) := hPG
              clear hPG hq8 hst HC7 HQ6 HP1 hpk hAf c0 c1 c2 c3 c4 c5 c6 c7 c8 c9 c10 cf
              rename World => wd8
              go_wp2_with (first
                | (go_at_call 20; refine (kn.out _ (m + 4 + 200 * cmds.length + 10) 3 (by omega) (by omega) HC8.out.ic.seq).mono ?_; rintro e v1 ⟨⟨r, rfl, r_0, r_1⟩, hsn, hmn⟩
                   have HC9 : Hid (CmSt q (m + 4 + 200 * cmds.length + 11) R ib cb w a0 a1 a2 ad2 cap2 cols2 adm capm cmds none 0 ⟨K, cr, cw, ⟨pk, a, b, ⟨px, py⟩, ⟨qz, qy⟩⟩, .slice none 0 0, []⟩ v1) := HC8.out.next hmn hsn
                   clear hsn hmn))
              obtain ⟨NP, hNP⟩ : ∃ NP : Nat, r = (NP : Int) - 1 := ⟨(r + 1).toNat, by omega⟩
              subst hNP
              have hNP3 : 1 ≤ NP ∧ NP ≤ 3 := by omega
              clear HC8 r_0 r_1
              go_loopw [7] (fun i wr => ∃ (t capp : Nat) (adp : Option Addr) (paths : List IC.Path), i = .int .i64 ((t : Int) - 1) ∧ t + paths.length = NP ∧ Hid (∀ p ∈ paths, PathGood (4 * far) K p) ∧ Hid (CmSt q (m + 4 + 200 * cmds.length + 11 + 51 * paths.length) R ib cb w a0 a1 a2 ad2 cap2 cols2 adm capm cmds adp capp ⟨K, cr, cw, ⟨pk, a, b, ⟨px, py⟩, ⟨qz, qy⟩⟩, .slice adp paths.length capp, paths⟩ wr)) (fun i _ => (intOf i + 1).toNat)
              case atStart => exact ⟨NP, 0, none, [], by go_num, by simp, (fun _ h => absurd h (by simp)), HC9⟩
              case round =>
                clear HC9
                obtain ⟨t, capp, adp, paths, rfl, htl, HPGs, HC9⟩ := hrel
                rename World => we
                obtain ⟨⟨c0, c1, c2, c3, c4, c5, c6, c7, c8, c9, c10⟩, cf⟩ := cells_cmd HC9.out.cbx
                by_cases ht0 : 0 < t
                · have hti : (0 : Int) ≤ (t : Int) - 1 := by omega
                  have HD : Hid (CmSt q (m + 4 + 200 * cmds.length + 11 + 51 * paths.length) R ib cb w a0 a1 a2 ad2 cap2 cols2 adm capm cmds adp capp ⟨K, cr, cw, ⟨pk, a, b, ⟨px, py⟩, ⟨qz, qy⟩⟩, .slice adp paths.length capp, paths⟩ we.drew) := HC9.out.below ((Below.refl _ _).drew)
                  have hcbz := HC9.out.cbx.lt
                  have hpl : paths.length ≤ 3 := by omega
                  clear c1 c2 c3 c4 c5 c6 c7 c8 c9
                  go_upto_block 3 with fail
                  go_cut [] from 114 to 132 (fun x => Hid (∃ (adp' : Option Addr) (capp' : Nat) (p : IC.Path), PathGood (4 * far) K p ∧ CmSt q (m + 4 + 200 * cmds.length + 11 + 51 * paths.length + 51) R ib cb w a0 a1 a2 ad2 cap2 cols2 adm capm cmds adp' capp' ⟨K, cr, cw, ⟨pk, a, b, ⟨px, py⟩, ⟨qz, qy⟩⟩, .slice adp' (paths.length + 1) capp', (paths ++ [p])⟩ x))
                  case first =>
                    clear HB5 HPG HPGs HH HTR HAdd HXin
                    rcases hK12 with rfl | rfl
                    · go_wp2
                      first
                      | go_region_law (first
                      | (go_simp; go_at_call 26; refine (kph.out _ (m + 4 + 200 * cmds.length + 11 + 51 * paths.length) _ (by omega) HD.out.ic.seq).mono ?_; rintro e wg ⟨⟨p, rfl, hcl, hst, hl1, hl2, hsg, hpo⟩, hsn, hmn⟩
                         have HG : Hid (CmSt q (m + 4 + 200 * cmds.length + 11 + 51 * paths.length + 51) R ib cb w a0 a1 a2 ad2 cap2 cols2 adm capm cmds adp capp ⟨1, cr, cw, ⟨pk, a, b, ⟨px, py⟩, ⟨qz, qy⟩⟩, .slice adp paths.length capp, paths⟩ wg) := (HD.out.next hmn hsn).mono (by omega)
                         obtain ⟨ads, caps, hvs, -, -⟩ := Many.len hpo
                         have HPo : Hid (PathOk wg p) := hpo
                         have HPg : Hid (PathGood (4 * far) 1 p) := ⟨fun _ => hcl, hst.mono (by omega), ⟨hl1, hl2⟩, fun s hs => (hsg s hs).mono (by omega)⟩
                         obtain ⟨⟨sx, sy⟩, vs, segs, pcl⟩ := p
                         obtain ⟨lens, hlens⟩ : ∃ n, segs.length = n := ⟨_, rfl⟩
                         replace hvs : vs = .slice ads segs.length caps := hvs
                         rw [hlens] at hvs
                         subst hvs
                         clear hcl
                         have p10 : wg.cell? ⟨cb, 10, none⟩ = some (.slice adp paths.length capp) := HG.out.cbx.cell 10
                         have hgz := HG.out.cbx.lt
                         clear hsn hmn hpo hst hl1 hl2 hsg hlens
                         simp only [IC.Path.cells])
                      | (refine step_push (ad := adp) (cap := capp) rfl (.tmp 118) (.tmp 130) 60 rfl (cb + 1) 72 _ 4 48 Tryz.underlying60 infoPath rfl (by decide) IC.Path.cells path_len paths ⟨⟨sx, sy⟩, .slice ads lens caps, segs, pcl⟩ paths.length rfl (by simp [Act.eval]) (HG.out.ps.alloc _) wg.heap.size (by simp [Act.eval]) (new_cells _ _ _) (path_one _ rfl) (by omega) (by omega) (by simp; omega) ?_
                         intro adp' capp' w' hown' hg'
                         have HP' : Hid (CmSt q (m + 4 + 200 * cmds.length + 11 + 51 * paths.length + 51) R ib cb w a0 a1 a2 ad2 cap2 cols2 adm capm cmds adp' capp' ⟨1, cr, cw, ⟨pk, a, b, ⟨px, py⟩, ⟨qz, qy⟩⟩, .slice adp' (paths.length + 1) capp', (paths ++ [⟨⟨sx, sy⟩, .slice ads lens caps, segs, pcl⟩])⟩ (w'.setCell ⟨cb, 10, none⟩ (.slice adp' (paths.length + 1) capp'))) := HG.out.push (.inl rfl) hg' hown' HPo.out rfl rfl rfl
                         have hbx : Blk w' cb 62 (IC.Cmd.cells ⟨1, cr, cw, ⟨pk, a, b, ⟨px, py⟩, ⟨qz, qy⟩⟩, .slice adp paths.length capp, paths⟩).toArray := (HG.out.cbx.alloc _).grown hg' (fun z e => by have := (HG.out.ps.lt z e).1; omega)
                         have s10 : w'.cell? ⟨cb, 10, none⟩ = some (.slice adp paths.length capp) := hbx.cell 10
                         have s11 := hbx.frozen 10
                         clear hown' hg' hbx))
                      | fail
                      all_goals
                        go_wp2
                        go_meet
                        case rel => exact hid ⟨adp', capp', ⟨⟨sx, sy⟩, .slice ads lens caps, segs, pcl⟩, HPg.out, HP'.out⟩
                    · go_wp2
                      first
                      | go_region_law (first
                      | (go_simp; go_at_call 20; refine (kn.out _ (m + 4 + 200 * cmds.length + 11 + 51 * paths.length) 2 (by omega) (by omega) HD.out.ic.seq).mono ?_; rintro e wf ⟨⟨r, rfl, r_0, r_1⟩, hsn, hmn⟩
                         have HF : Hid (CmSt q (m + 4 + 200 * cmds.length + 11 + 51 * paths.length + 1) R ib cb w a0 a1 a2 ad2 cap2 cols2 adm capm cmds adp capp ⟨2, cr, cw, ⟨pk, a, b, ⟨px, py⟩, ⟨qz, qy⟩⟩, .slice adp paths.length capp, paths⟩ wf) := HD.out.next hmn hsn
                         have n10 : wf.cell? ⟨cb, 10, none⟩ = some (.slice adp paths.length capp) := HF.out.cbx.cell 10
                         clear hsn hmn)
                      | (go_simp; go_at_call 26; refine (kph.out _ (m + 4 + 200 * cmds.length + 11 + 51 * paths.length + 1) _ (by omega) HF.out.ic.seq).mono ?_; rintro e wg ⟨⟨p, rfl, hcl, hst, hl1, hl2, hsg, hpo⟩, hsn, hmn⟩
                         have HG : Hid (CmSt q (m + 4 + 200 * cmds.length + 11 + 51 * paths.length + 51) R ib cb w a0 a1 a2 ad2 cap2 cols2 adm capm cmds adp capp ⟨2, cr, cw, ⟨pk, a, b, ⟨px, py⟩, ⟨qz, qy⟩⟩, .slice adp paths.length capp, paths⟩ wg) := (HF.out.next hmn hsn).mono (by omega)
                         obtain ⟨ads, caps, hvs, -, -⟩ := Many.len hpo
                         have HPo : Hid (PathOk wg p) := hpo
                         have HPg : Hid (PathGood (4 * far) 2 p) := ⟨fun h => absurd h (by decide), hst.mono (by omega), ⟨hl1, hl2⟩, fun s hs => (hsg s hs).mono (by omega)⟩
                         obtain ⟨⟨sx, sy⟩, vs, segs, pcl⟩ := p
                         obtain ⟨lens, hlens⟩ : ∃ n, segs.length = n := ⟨_, rfl⟩
                         replace hvs : vs = .slice ads segs.length caps := hvs
                         rw [hlens] at hvs
                         subst hvs
                         clear hcl
                         have p10 : wg.cell? ⟨cb, 10, none⟩ = some (.slice adp paths.length capp) := HG.out.cbx.cell 10
                         have hgz := HG.out.cbx.lt
                         clear hsn hmn hpo hst hl1 hl2 hsg hlens
                         simp only [IC.Path.cells])
                      | (refine step_push (ad := adp) (cap := capp) rfl (.tmp 118) (.tmp 130) 60 rfl (cb + 1) 72 _ 4 48 Tryz.underlying60 infoPath rfl (by decide) IC.Path.cells path_len paths ⟨⟨sx, sy⟩, .slice ads lens caps, segs, pcl⟩ paths.length rfl (by simp [Act.eval]) (HG.out.ps.alloc _) wg.heap.size (by simp [Act.eval]) (new_cells _ _ _) (path_one _ rfl) (by omega) (by omega) (by simp; omega) ?_
                         intro adp' capp' w' hown' hg'
                         have HP' : Hid (CmSt q (m + 4 + 200 * cmds.length + 11 + 51 * paths.length + 51) R ib cb w a0 a1 a2 ad2 cap2 cols2 adm capm cmds adp' capp' ⟨2, cr, cw, ⟨pk, a, b, ⟨px, py⟩, ⟨qz, qy⟩⟩, .slice adp' (paths.length + 1) capp', (paths ++ [⟨⟨sx, sy⟩, .slice ads lens caps, segs, pcl⟩])⟩ (w'.setCell ⟨cb, 10, none⟩ (.slice adp' (paths.length + 1) capp'))) := HG.out.push (.inl rfl) hg' hown' HPo.out rfl rfl rfl
                         have hbx : Blk w' cb 62 (IC.Cmd.cells ⟨2, cr, cw, ⟨pk, a, b, ⟨px, py⟩, ⟨qz, qy⟩⟩, .slice adp paths.length capp, paths⟩).toArray := (HG.out.cbx.alloc _).grown hg' (fun z e => by have := (HG.out.ps.lt z e).1; omega)
                         have s10 : w'.cell? ⟨cb, 10, none⟩ = some (.slice adp paths.length capp) := hbx.cell 10
                         have s11 := hbx.frozen 10
                         clear hown' hg' hbx))
                      | fail
                      all_goals
                        go_wp2
                        go_meet
                        case rel => exact hid ⟨adp', capp', ⟨⟨sx, sy⟩, .slice ads lens caps, segs, pcl⟩, HPg.out, HP'.out⟩
                  case rest =>
                    obtain ⟨adp', capp', p, hpg, hst⟩ := hcut.out
                    have HPg : Hid (PathGood (4 * far) K p) := hpg
                    have HP' : Hid (CmSt q (m + 4 + 200 * cmds.length + 11 + 51 * paths.length + 51) R ib cb w a0 a1 a2 ad2 cap2 cols2 adm capm cmds adp' capp' ⟨K, cr, cw, ⟨pk, a, b, ⟨px, py⟩, ⟨qz, qy⟩⟩, .slice adp' (paths.length + 1) capp', (paths ++ [p])⟩ wc) := hst
                    clear hpg hst hcut HC9 HD c0 c10 cf
                    go_wp2
                    go_roundw
                    case rel =>
                      have e1 : (t : Int) - 1 - 1 = ((t - 1 : Nat) : Int) - 1 := by omega
                      have e2 : (paths ++ [p]).length = paths.length + 1 := by simp
                      refine ⟨t - 1, capp', adp', paths ++ [p], by rw [e1], by rw [e2]; omega, fun p' hp => ?_, by rw [e2]; exact HP'.out.mono (by omega)⟩
                      rcases List.mem_append.1 hp with h | h
                      · exact HPGs.out p' h
                      · obtain rfl : p' = p := List.mem_singleton.1 h
                        exact HPg.out
                    case measure => simp [intOf]; omega
                · obtain rfl : t = 0 := by omega
                  obtain ⟨⟨i0, i1, i2, i3, i4⟩, i5⟩ := cells_icon HC9.out.ic.box
                  have hcbz := HC9.out.cbx.lt
                  have hibz := HC9.out.ic.box.lt
                  have hcl : cmds.length ≤ 3 := by omega
                  go_wp2_with (first
                    | (at_builtin; refine wpList_push _ rfl (.tmp 134) (.tmp 136) 25 rfl (ib + 1) 62 _ 11 104 Tryz.underlying25 infoCmd rfl (by decide) IC.Cmd.cells cmd_len cmds ⟨K, cr, cw, ⟨pk, a, b, ⟨px, py⟩, ⟨qz, qy⟩⟩, .slice adp paths.length capp, paths⟩ cmds.length rfl rfl (HC9.out.ic.ms.alloc _) we.heap.size rfl (new_cells _ _ _) (cmd_one _ rfl) (by omega) (by omega) (by simp; omega) ?_; intro adm' capm' w' hown' hg'
                       have HI' : Hid (IcSt q (m + 4 + 200 * cmds.length + 11 + 51 * paths.length) R ib w a0 a1 a2 ad2 cap2 cols2 adm' capm' (cmds ++ [⟨K, cr, cw, ⟨pk, a, b, ⟨px, py⟩, ⟨qz, qy⟩⟩, .slice adp paths.length capp, paths⟩]) (w'.setCell ⟨ib, 4, none⟩ (.slice adm' (cmds.length + 1) capm'))) := HC9.out.done hg' hown'
                       have hbx : Blk w' ib 27 #[.int .i64 a0, .int .i64 a1, .int .i64 a2, .slice ad2 cols2.length cap2, .slice adm cmds.length capm] := (HC9.out.ic.box.alloc _).grown hg' (fun z e => by have := (HC9.out.ic.ms.lt z e).1; omega)
                       obtain ⟨⟨j0, j1, j2, j3, j4⟩, j5⟩ := cells_icon hbx
                       clear hown' hg' hbx))
                  go_roundw
                  case rel =>
                    have e1 : (k : Int) - 1 - 1 = ((k - 1 : Nat) : Int) - 1 := by omega
                    have e2 : (cmds ++ [(⟨K, cr, cw, ⟨pk, a, b, ⟨px, py⟩, ⟨qz, qy⟩⟩, .slice adp paths.length capp, paths⟩ : IC.Cmd)]).length = cmds.length + 1 := by simp
                    refine ⟨k - 1, cap2, capm', ad2, adm', cols2, cmds ++ [⟨K, cr, cw, ⟨pk, a, b, ⟨px, py⟩, ⟨qz, qy⟩⟩, .slice adp paths.length capp, paths⟩], by rw [e1], by rw [e2]; omega, ?_, ?_⟩
                    · have hg : CmdGood (4 * far) cols2.length ⟨K, cr, cw, ⟨pk, a, b, ⟨px, py⟩, ⟨qz, qy⟩⟩, .slice adp paths.length capp, paths⟩ := ⟨HH.out, HPG.out, ⟨by show 1 ≤ paths.length; omega, by show paths.length ≤ 3; omega⟩, HPGs.out⟩
                      rcases HB5.out with ⟨-, rfl, -, -, rfl⟩ | ⟨-, ⟨y, hy, hyin⟩, -⟩
                      · exact HTR.out.snoc (x := ⟨xr, xg, xb, xa⟩) (y := ⟨xr, xg, xb, xa⟩) HAdd.out HXin.out (.inl ⟨rfl, rfl⟩) rfl rfl hg
                      · exact HTR.out.snoc HAdd.out HXin.out (.inr ⟨hy, hyin⟩) rfl rfl hg
                    · rw [e2]
                      exact HI'.out.next (Mk.refl _ _) (HI'.out.seq.mono (by omega))
                  case measure => simp [intOf]; omega
end Go.Proofs.YtcnlkdoifogkbaaGreatDoor

import Derived.Test.YtenmkopiddmieabGreatDoorJA
import Derived.Test.YtenmkopiddmieabGreatDoorParseSrc
import Derived.Test.YtenmkopiddmieabGreatDoorPuG
/-
  A region that draws its order, whose own operations only read and whose callees make memory but write none that was there: one walk, in the order of the text, over the class of all worlds that have grown from the one ahead of it.
-/
namespace Go.Proofs.YtenmkopiddmieabGreatDoor
open Go.RowKit

/-- The worlds that have grown from w: what was there is as it was. -/
def Grown (w : World) : Type := { x : World // Below w.heap.size w x }

/-- The world itself. -/
def Grown.w {w : World} (g : Grown w) : World := Subtype.val g

theorem Grown.below {w : World} (g : Grown w) : Below w.heap.size w g.w := Subtype.property g

theorem Grown.some (w : World) : Nonempty (Grown w) := ⟨⟨w, Below.refl _ _⟩⟩

theorem wp_region_grow {P : Program} {id : Nat} {Q : Exit → Act → World → Prop} {a : Act} {w : World} {l : List Oper} (hm : P.follows .mixedOrders = true) (hB : Region.lexB .any l.toArray = true)
    (h : wpQuiet P l.toArray (fun w' => ∃ g : Grown w, w' = g.w) (fun a' => ∀ w', (∃ g : Grown w, w' = g.w) → Q .normal a' w') l a) : (Code.region id l.toArray true).wp P Q a w :=
  wp_region_quiet (C := fun w' => ∃ g : Grown w, w' = g.w) hm hB ⟨⟨w.drew, (Below.refl _ _).drew⟩, rfl⟩ (by simpa using h)

theorem grow_of {P : Program} {f : FuncId} {args : Array Value} {w : World} {v : Value} {g : Grown w}
    (h : Calls P f args g.w fun e w' => e = .returned v ∧ Below g.w.heap.size g.w w') : Calls P f args g.w fun e w'' => e = .returned v ∧ ∃ g' : Grown w, w'' = g'.w :=
  h.mono fun _ w'' ⟨he, hb⟩ => ⟨he, ⟨w'', chain g.below hb⟩, rfl⟩

theorem Grown.cell {w : World} {b j : Nat} {v : Value} (hb : b < w.heap.size) (h : w.cell? ⟨b, j, none⟩ = Option.some v) : ∀ g : Grown w, g.w.cell? ⟨b, j, none⟩ = Option.some v :=
  fun g => (g.below.cell (p := ⟨b, j, none⟩) hb).trans h

end Go.Proofs.YtenmkopiddmieabGreatDoor

/-
  The document's own word on two written icons that are the same but for places: it says so; walked over the program.
-/
set_option linter.unusedVariables false
namespace Go.Proofs.YtenmkopiddmieabGreatDoor
open Go.RowKit

set_option maxRecDepth 20000 in
theorem same_val (S : ByteArray) (n p q : Int) (w : World) :
    Calls Tryz.prog 31 #[.agg #[.string S, .int .i64 n, .int .i64 p], .agg #[.string S, .int .i64 n, .int .i64 q], .bool false] w fun e w' => e = .returned (.bool true) ∧ Below w.heap.size w w' := by
  have B0 : Hid (∀ o o', Below w.heap.size w ((w.alloc o).alloc o')) := fun o o' => ((Below.refl _ _).alloc (by omega) _).alloc (by simp) _
  go_enter Tryz.func31, Tryz.ntmps31
  go_wp2
  go_ret
  exact ⟨ret_bool (by simp), B0.out _ _⟩

set_option maxRecDepth 20000 in
theorem same_col (r g b a : Int) (w : World) :
    Calls Tryz.prog 16 #[.agg #[.int .u8 r, .int .u8 g, .int .u8 b, .int .u8 a], .agg #[.int .u8 r, .int .u8 g, .int .u8 b, .int .u8 a]] w fun e w' => e = .returned (.bool true) ∧ Below w.heap.size w w' := by
  have B0 : Hid (∀ o o', Below w.heap.size w ((w.alloc o).alloc o')) := fun o o' => ((Below.refl _ _).alloc (by omega) _).alloc (by simp) _
  go_enter Tryz.func16, Tryz.ntmps16
  go_wp2
  go_ret
  exact ⟨ret_bool (by simp), B0.out _ _⟩

set_option maxRecDepth 20000 in
theorem same_ref (S : ByteArray) (r g b a p q : Int) (w : World) :
    Calls Tryz.prog 32 #[.agg #[.string S, .int .u8 r, .int .u8 g, .int .u8 b, .int .u8 a, .int .i64 p], .agg #[.string S, .int .u8 r, .int .u8 g, .int .u8 b, .int .u8 a, .int .i64 q], .bool false] w fun e w' => e = .returned (.bool true) ∧ Below w.heap.size w w' := by
  have B0 : Hid (∀ o o', Below w.heap.size w ((w.alloc o).alloc o')) := fun o o' => ((Below.refl _ _).alloc (by omega) _).alloc (by simp) _
  have kc := hid'' (fun W => same_col r g b a W)
  go_enter Tryz.func32, Tryz.ntmps32
  go_wp2_with (go_at_call 16; refine (kc.out _).mono ?_; rintro e w1 ⟨rfl, hb1⟩)
  go_ret
  exact ⟨ret_bool (by simp), chain (B0.out _ _) hb1⟩

theorem map_at {α β : Type} {f : α → β} {l m : List α} (h : l.map f = m.map f) (k : Nat) (h1 : k < l.length) (h2 : k < m.length) : f l[k] = f m[k] := by
  have e := congrArg (fun x => x[k]?) h
  simp only [List.getElem?_map, List.getElem?_eq_getElem h1, List.getElem?_eq_getElem h2, Option.map_some] at e
  exact Option.some.inj e
theorem map_len {α β : Type} {f : α → β} {l m : List α} (h : l.map f = m.map f) : m.length = l.length := by
  have := congrArg List.length h
  simpa using this.symm

/-- A whole element of a list, read. -/
theorem many_load {α : Type} {w : World} {t : TypeId} {size : Nat} {f : α → List Value} {v : Value} {l : List α} (hs : ∀ x, (f x).length = size) (h : Many w t size f v l) (k : Nat) (hk : k < l.length) :
    ∃ g o cap, v = .slice (some ⟨g, o, none⟩) l.length cap ∧ g < w.heap.size ∧ l.length ≤ cap ∧ cap ≤ maxLen ∧ ∀ j u, (f l[k])[j]? = some u → w.cell? ⟨g, o + k * size + j, none⟩ = some u := by
  obtain ⟨g, o, cap, h1, h2, h3, h4, h5⟩ := h.at hs k hk
  exact ⟨g, o, cap, h1, h2, h3, h4, fun j u hj => by rw [Nat.add_assoc]; exact h5 j u hj⟩

theorem valL_len' (x : PP.Val) : (valL x).length = 3 := rfl

set_option maxRecDepth 20000 in
set_option maxHeartbeats 1000000 in
theorem same_step (kd p q : Int) (v1 v2 : Value) (vs us : List PP.Val) (w : World) (h1 : Many w 65 3 valL v1 vs) (h2 : Many w 65 3 valL v2 us) (he : vs.map PP.Val.z = us.map PP.Val.z) :
    Calls Tryz.prog 61 #[.agg #[.int .i64 kd, .int .i64 p, v1], .agg #[.int .i64 kd, .int .i64 q, v2], .bool false] w fun e w' => e = .returned (.bool true) ∧ Below w.heap.size w w' := by
  have H1 := hid'' h1
  have H2 := hid'' h2
  have HE := hid'' he
  obtain ⟨ad1, c1, hv1, l1, m1⟩ := H1.out.len
  obtain ⟨ad2, c2, hv2, l2, m2⟩ := H2.out.len
  unfold maxLen at m1 m2
  have hlen := map_len he
  obtain ⟨L, hL⟩ : ∃ L, vs.length = L := ⟨_, rfl⟩
  have HL := hid'' hL
  rw [hL] at hv1 l1 hlen
  rw [hlen] at hv2 l2
  have HL2 := hid'' hlen
  subst hv1 hv2
  clear h1 h2 he hL hlen
  go_enter Tryz.func61, Tryz.ntmps61
  go_wp2
  obtain ⟨W0, hW0⟩ : ∃ W0, (w.alloc (.cells #[.int .i64 kd, .int .i64 p, .slice ad1 L c1] 119)).alloc (.cells #[.int .i64 kd, .int .i64 q, .slice ad2 L c2] 119) = W0 := ⟨_, rfl⟩
  have B0 : Hid (Below w.heap.size w W0) := by rw [← hW0]; exact ((Below.refl _ _).alloc (by omega) _).alloc (by simp) _
  have b1 : W0.cell? ⟨w.heap.size, 2, none⟩ = some (.slice ad1 L c1) := by rw [← hW0]; rw [World.cell?_of_block (Below.heap_alloc _ _ _ (by simp))]; rw [cell_new]; rfl
  have b2 : W0.cell? ⟨w.heap.size + 1, 2, none⟩ = some (.slice ad2 L c2) := by
    rw [← hW0]
    have e : (w.alloc (.cells #[.int .i64 kd, .int .i64 p, .slice ad1 L c1] 119)).heap.size = w.heap.size + 1 := by simp
    rw [← e, cell_new]
    rfl
  have z1 : w.heap.size + 1 < W0.heap.size := by rw [← hW0]; simp
  rw [hW0]
  clear hW0
  go_loopw [7] (fun i wr => ∃ k : Nat, k ≤ L ∧ i = .int .i64 k ∧ Hid (Below W0.heap.size W0 wr)) (fun i _ => L - (intOf i).toNat)
  case atStart => exact ⟨0, by omega, rfl, Below.refl _ _⟩
  case round =>
    obtain ⟨k, hk, rfl, HB⟩ := hrel
    have hz := HB.out.size
    have x1 := (HB.out.cell (p := ⟨w.heap.size, 2, none⟩) (by show w.heap.size < _; omega)).trans b1
    have x2 := (HB.out.cell (p := ⟨w.heap.size + 1, 2, none⟩) (by show w.heap.size + 1 < _; omega)).trans b2
    by_cases hkL : k < L
    · have k1 : k < vs.length := by rw [HL.out]; exact hkL
      have k2 : k < us.length := by rw [HL2.out]; exact hkL
      have hzz := map_at HE.out k k1 k2
      obtain ⟨g, o, cap, hv, hg, -, -, hc⟩ := many_load valL_len' H1.out k k1
      obtain ⟨rfl, -⟩ : ad1 = some ⟨g, o, none⟩ ∧ _ := by simpa using hv
      obtain ⟨g', o', cap', hv', hg', -, -, hc'⟩ := many_load valL_len' H2.out k k2
      obtain ⟨rfl, -⟩ : ad2 = some ⟨g', o', none⟩ ∧ _ := by simpa using hv'
      clear hv hv'
      obtain ⟨⟨n1, i1, p1⟩, hx1⟩ : ∃ s, vs[k] = s := ⟨_, rfl⟩
      obtain ⟨⟨n2, i2, p2⟩, hx2⟩ : ∃ s, us[k] = s := ⟨_, rfl⟩
      rw [hx1] at hzz hc
      rw [hx2] at hzz hc'
      unfold PP.Val.z at hzz
      simp only [PP.Val.mk.injEq, and_true] at hzz
      obtain ⟨rfl, rfl⟩ := hzz
      obtain ⟨S, hS⟩ : ∃ S : ByteArray, (⟨n1.toArray⟩ : ByteArray) = S := ⟨_, rfl⟩
      have r1 : ∀ j, g < w.heap.size → wr.cell? ⟨g, j, none⟩ = w.cell? ⟨g, j, none⟩ := fun j h => (HB.out.cell (p := ⟨g, j, none⟩) (by show g < _; have := B0.out.size; omega)).trans (B0.out.cell (p := ⟨g, j, none⟩) h)
      have r2 : ∀ j, g' < w.heap.size → wr.cell? ⟨g', j, none⟩ = w.cell? ⟨g', j, none⟩ := fun j h => (HB.out.cell (p := ⟨g', j, none⟩) (by show g' < _; have := B0.out.size; omega)).trans (B0.out.cell (p := ⟨g', j, none⟩) h)
      have zg : g < wr.heap.size := by have := B0.out.size; omega
      have zg' : g' < wr.heap.size := by have := B0.out.size; omega
      have f0 := Grown.cell (w := wr) zg (show wr.cell? ⟨g, o + k * 3, none⟩ = some (.string S) by rw [r1 _ hg, ← hS]; exact hc 0 _ rfl)
      have f1 := Grown.cell (w := wr) zg (show wr.cell? ⟨g, o + k * 3 + 1, none⟩ = some (.int .i64 i1) by rw [r1 _ hg]; exact hc 1 _ rfl)
      have f2 := Grown.cell (w := wr) zg (show wr.cell? ⟨g, o + k * 3 + 2, none⟩ = some (.int .i64 p1) by rw [r1 _ hg]; exact hc 2 _ rfl)
      have g0 := Grown.cell (w := wr) zg' (show wr.cell? ⟨g', o' + k * 3, none⟩ = some (.string S) by rw [r2 _ hg', ← hS]; exact hc' 0 _ rfl)
      have g1 := Grown.cell (w := wr) zg' (show wr.cell? ⟨g', o' + k * 3 + 1, none⟩ = some (.int .i64 i1) by rw [r2 _ hg']; exact hc' 1 _ rfl)
      have g2 := Grown.cell (w := wr) zg' (show wr.cell? ⟨g', o' + k * 3 + 2, none⟩ = some (.int .i64 p2) by rw [r2 _ hg']; exact hc' 2 _ rfl)
      have y1 := Grown.cell (w := wr) (show w.heap.size < wr.heap.size by omega) x1
      have y2 := Grown.cell (w := wr) (show w.heap.size + 1 < wr.heap.size by omega) x2
      have hne := Grown.some wr
      have hki : (k : Int) < (L : Int) := by omega
      have kS := hid'' (fun W => same_val S i1 p1 p2 W)
      clear hc hc' r1 r2 hx1 hx2 hS
      go_wp2
      refine wp_region_grow (by kernel_rfl) (by kernel_rfl) ?_
      repeat (go_big_quiet_step ((go_at_call 31; exact grow_of (kS.out _))))
      refine wpQuiet_nil ?_
      rintro _ ⟨G, rfl⟩
      go_wp2
      go_roundw
      case rel => exact ⟨k + 1, by omega, by go_num, chain HB.out G.below⟩
      case measure => simp [intOf]; omega
    · obtain rfl : k = L := by omega
      go_wp2
      go_ret
      exact ⟨rfl, chain B0.out HB.out⟩

end Go.Proofs.YtenmkopiddmieabGreatDoor

/-
  The document's own word on two items that are the same but for places.
-/
set_option linter.unusedVariables false
namespace Go.Proofs.YtenmkopiddmieabGreatDoor
open Go.RowKit

theorem stepL_len' (p : PP.Step × Value) : (stepL p).length = 3 := rfl

set_option maxRecDepth 100000 in
set_option maxHeartbeats 4000000 in
theorem same_item (x y : PP.Item × Value) (w : World) (h1 : ItemOk w x) (h2 : ItemOk w y) (he : x.1.z = y.1.z) :
    Calls Tryz.prog 30 #[.agg (itemL x).toArray, .agg (itemL y).toArray, .bool false] w fun e w' => e = .returned (.bool true) ∧ Below w.heap.size w w' := by
  obtain ⟨⟨xu, xp, xs, xn, ⟨xxn, xxi, xxp⟩, ⟨xyn, xyi, xyp⟩, ⟨xbn, xbi, xbp⟩, xt⟩, v1⟩ := x
  obtain ⟨⟨yu, yp, ys, yn, ⟨yxn, yxi, yxp⟩, ⟨yyn, yyi, yyp⟩, ⟨ybn, ybi, ybp⟩, yt⟩, v2⟩ := y
  unfold PP.Item.z PP.Val.z at he
  simp only [PP.Item.mk.injEq, PP.Val.mk.injEq, and_true, true_and] at he
  obtain ⟨rfl, hss, rfl, ⟨rfl, rfl⟩, ⟨rfl, rfl⟩, ⟨rfl, rfl⟩, rfl⟩ := he
  obtain ⟨hs1, e1, ⟨ad1, c1, hv1⟩, hm1, hk1⟩ := h1
  obtain ⟨hs2, e2, ⟨ad2, c2, hv2⟩, hm2, hk2⟩ := h2
  simp only at hv1 hv2 hm1 hm2
  simp only at e1 e2
  rw [← e1, ← e2, List.map_map, List.map_map] at hss
  have H1 := hid'' hm1
  have H2 := hid'' hm2
  have K1 := hid'' hk1
  have K2 := hid'' hk2
  have HE := hid'' hss
  have hlen := map_len hss
  obtain ⟨L, hL⟩ : ∃ L, hs1.length = L := ⟨_, rfl⟩
  have HL := hid'' hL
  rw [hL] at hv1 hlen
  rw [hlen] at hv2
  have HL2 := hid'' hlen
  have lim : L ≤ maxLen := by
    obtain ⟨a, c, e, l, m⟩ := hm1.len
    rw [← hL]
    exact Nat.le_trans l m
  unfold maxLen at lim
  subst hv1 hv2
  clear hm1 hm2 hk1 hk2 hss hL hlen e1 e2
  unfold itemL
  simp only
  obtain ⟨Sn, hSn⟩ : ∃ S : ByteArray, (⟨xn.toArray⟩ : ByteArray) = S := ⟨_, rfl⟩
  obtain ⟨Sx, hSx⟩ : ∃ S : ByteArray, (⟨xxn.toArray⟩ : ByteArray) = S := ⟨_, rfl⟩
  obtain ⟨Sy, hSy⟩ : ∃ S : ByteArray, (⟨xyn.toArray⟩ : ByteArray) = S := ⟨_, rfl⟩
  obtain ⟨Sb, hSb⟩ : ∃ S : ByteArray, (⟨xbn.toArray⟩ : ByteArray) = S := ⟨_, rfl⟩
  rw [hSn, hSx, hSy, hSb]
  clear hSn hSx hSy hSb xn xxn xyn xbn xs ys
  have B0 : Hid (∀ o o', Below w.heap.size w ((w.alloc o).alloc o')) := fun o o' => ((Below.refl _ _).alloc (by omega) _).alloc (by simp) _
  have H0 : Hid (Below ((w.alloc (.cells #[.bool xu, .int .i64 (xp : Nat), .slice ad1 L c1, .string Sn, .string Sx, .int .i64 xxi, .int .i64 (xxp : Nat), .string Sy, .int .i64 xyi, .int .i64 (xyp : Nat), .string Sb, .int .i64 xbi, .int .i64 (xbp : Nat), .int .i64 (xt : Nat)] 93)).alloc (.cells #[.bool xu, .int .i64 (yp : Nat), .slice ad2 L c2, .string Sn, .string Sx, .int .i64 xxi, .int .i64 (yxp : Nat), .string Sy, .int .i64 xyi, .int .i64 (yyp : Nat), .string Sb, .int .i64 xbi, .int .i64 (ybp : Nat), .int .i64 (xt : Nat)] 93)).heap.size ((w.alloc (.cells #[.bool xu, .int .i64 (xp : Nat), .slice ad1 L c1, .string Sn, .string Sx, .int .i64 xxi, .int .i64 (xxp : Nat), .string Sy, .int .i64 xyi, .int .i64 (xyp : Nat), .string Sb, .int .i64 xbi, .int .i64 (xbp : Nat), .int .i64 (xt : Nat)] 93)).alloc (.cells #[.bool xu, .int .i64 (yp : Nat), .slice ad2 L c2, .string Sn, .string Sx, .int .i64 xxi, .int .i64 (yxp : Nat), .string Sy, .int .i64 xyi, .int .i64 (yyp : Nat), .string Sb, .int .i64 xbi, .int .i64 (ybp : Nat), .int .i64 (xt : Nat)] 93)) ((w.alloc (.cells #[.bool xu, .int .i64 (xp : Nat), .slice ad1 L c1, .string Sn, .string Sx, .int .i64 xxi, .int .i64 (xxp : Nat), .string Sy, .int .i64 xyi, .int .i64 (xyp : Nat), .string Sb, .int .i64 xbi, .int .i64 (xbp : Nat), .int .i64 (xt : Nat)] 93)).alloc (.cells #[.bool xu, .int .i64 (yp : Nat), .slice ad2 L c2, .string Sn, .string Sx, .int .i64 xxi, .int .i64 (yxp : Nat), .string Sy, .int .i64 xyi, .int .i64 (yyp : Nat), .string Sb, .int .i64 xbi, .int .i64 (ybp : Nat), .int .i64 (xt : Nat)] 93))) := Below.refl _ _
  go_enter Tryz.func30, Tryz.ntmps30
  go_wp2_with (go_at_call 31; refine (same_val _ _ _ _ _).mono ?_; rintro e w1 ⟨rfl, hb⟩; have HN := hid'' (chain (Hid.out H0) hb); obtain ⟨p, q, r⟩ := boxes2 HN.out; clear H0 hb; have H0 := HN; clear HN)
  rename World => wa
  have b1 : wa.cell? ⟨w.heap.size, 2, none⟩ = some (.slice ad1 L c1) := (p 2).trans rfl
  have b2 : wa.cell? ⟨w.heap.size + 1, 2, none⟩ = some (.slice ad2 L c2) := (q 2).trans rfl
  have BW : Hid (Below w.heap.size w wa) := chain (B0.out _ _) H0.out
  have z1 : w.heap.size + 1 < wa.heap.size := (sizes2 H0.out).2
  clear p q r H0 B0
  go_loopw [7] (fun i wr => ∃ k : Nat, k ≤ L ∧ i = .int .i64 k ∧ Hid (Below wa.heap.size wa wr)) (fun i _ => L - (intOf i).toNat)
  case atStart => exact ⟨0, by omega, rfl, Below.refl _ _⟩
  case round =>
    obtain ⟨k, hk, rfl, HB⟩ := hrel
    have hz := HB.out.size
    have x1 := (HB.out.cell (p := ⟨w.heap.size, 2, none⟩) (by show w.heap.size < _; omega)).trans b1
    have x2 := (HB.out.cell (p := ⟨w.heap.size + 1, 2, none⟩) (by show w.heap.size + 1 < _; omega)).trans b2
    have BR : Hid (Below w.heap.size w wr) := chain BW.out HB.out
    by_cases hkL : k < L
    · have k1 : k < hs1.length := by rw [HL.out]; exact hkL
      have k2 : k < hs2.length := by rw [HL2.out]; exact hkL
      have hzz := map_at HE.out k k1 k2
      have o1 := K1.out hs1[k] (List.getElem_mem k1)
      have o2 := K2.out hs2[k] (List.getElem_mem k2)
      obtain ⟨g, o, cap, hv, hg, -, -, hc⟩ := many_load stepL_len' H1.out k k1
      obtain ⟨rfl, -⟩ : ad1 = some ⟨g, o, none⟩ ∧ _ := by simpa using hv
      obtain ⟨g', o', cap', hv', hg', -, -, hc'⟩ := many_load stepL_len' H2.out k k2
      obtain ⟨rfl, -⟩ : ad2 = some ⟨g', o', none⟩ ∧ _ := by simpa using hv'
      clear hv hv'
      obtain ⟨⟨⟨d1, p1, s1⟩, v1⟩, hx1⟩ : ∃ s, hs1[k] = s := ⟨_, rfl⟩
      obtain ⟨⟨⟨d2, p2, s2⟩, v2⟩, hx2⟩ : ∃ s, hs2[k] = s := ⟨_, rfl⟩
      rw [hx1] at hzz hc o1
      rw [hx2] at hzz hc' o2
      unfold StepOk at o1 o2
      simp only at o1 o2
      obtain ⟨⟨a1, e1, hv1⟩, m1⟩ := o1
      obtain ⟨⟨a2, e2, hv2⟩, m2⟩ := o2
      simp only [Function.comp, PP.Step.z, PP.Step.mk.injEq, true_and] at hzz
      obtain ⟨rfl, hvs⟩ := hzz
      have kS : Hid (∀ W, Below w.heap.size w W → Calls Tryz.prog 61 #[.agg #[.int .i64 (d1 : Nat), .int .i64 (p1 : Nat), v1], .agg #[.int .i64 (d1 : Nat), .int .i64 (p2 : Nat), v2], .bool false] W fun e w' => e = .returned (.bool true) ∧ Below W.heap.size W w') :=
        fun W hW => same_step _ _ _ v1 v2 s1 s2 W (Row.below m1 hW) (Row.below m2 hW) hvs
      subst hv1 hv2
      have zg : g < wr.heap.size := by have := BR.out.size; omega
      have zg' : g' < wr.heap.size := by have := BR.out.size; omega
      have f0 := Grown.cell (w := wr) zg ((BR.out.cell (p := ⟨g, o + k * 3, none⟩) hg).trans (hc 0 _ rfl))
      have f1 := Grown.cell (w := wr) zg ((BR.out.cell (p := ⟨g, o + k * 3 + 1, none⟩) hg).trans (hc 1 _ rfl))
      have f2 := Grown.cell (w := wr) zg ((BR.out.cell (p := ⟨g, o + k * 3 + 2, none⟩) hg).trans (hc 2 _ rfl))
      have g0 := Grown.cell (w := wr) zg' ((BR.out.cell (p := ⟨g', o' + k * 3, none⟩) hg').trans (hc' 0 _ rfl))
      have g1 := Grown.cell (w := wr) zg' ((BR.out.cell (p := ⟨g', o' + k * 3 + 1, none⟩) hg').trans (hc' 1 _ rfl))
      have g2 := Grown.cell (w := wr) zg' ((BR.out.cell (p := ⟨g', o' + k * 3 + 2, none⟩) hg').trans (hc' 2 _ rfl))
      have y1 := Grown.cell (w := wr) (show w.heap.size < wr.heap.size by omega) x1
      have y2 := Grown.cell (w := wr) (show w.heap.size + 1 < wr.heap.size by omega) x2
      have hne := Grown.some wr
      have hki : (k : Int) < (L : Int) := by omega
      clear hc hc' hx1 hx2 m1 m2 hvs
      go_wp2
      refine wp_region_grow (by kernel_rfl) (by kernel_rfl) ?_
      repeat (go_big_quiet_step ((go_at_call 61; exact grow_of (kS.out _ (chain BR.out (Grown.below _))))))
      refine wpQuiet_nil ?_
      rintro _ ⟨G, rfl⟩
      go_wp2
      go_roundw
      case rel => exact ⟨k + 1, by omega, by go_num, chain HB.out G.below⟩
      case measure => simp [intOf]; omega
    · obtain rfl : k = L := by omega
      go_wp2
      go_ret
      exact ⟨rfl, BR.out⟩

end Go.Proofs.YtenmkopiddmieabGreatDoor

/-
  The document's own word on two lists of items that are the same but for places.
-/
set_option linter.unusedVariables false
namespace Go.Proofs.YtenmkopiddmieabGreatDoor
open Go.RowKit

theorem StepOk.below {w w' : World} {p : PP.Step × Value} (h : StepOk w p) (hb : Below w.heap.size w w') : StepOk w' p := ⟨h.1, Row.below h.2 hb⟩
theorem StepsAt.below {w w' : World} {v : Value} {l : List PP.Step} (h : StepsAt w v l) (hb : Below w.heap.size w w') : StepsAt w' v l := by
  obtain ⟨hs, e1, e2, e3, e4⟩ := h
  exact ⟨hs, e1, e2, Row.below e3 hb, fun p hp => (e4 p hp).below hb⟩
theorem ItemOk.below {w w' : World} {p : PP.Item × Value} (h : ItemOk w p) (hb : Below w.heap.size w w') : ItemOk w' p := StepsAt.below h hb
theorem ItemsAt.below {w w' : World} {v : Value} {l : List PP.Item} (h : ItemsAt w v l) (hb : Below w.heap.size w w') : ItemsAt w' v l := by
  obtain ⟨hs, e1, e2, e3, e4⟩ := h
  exact ⟨hs, e1, e2, Row.below e3 hb, fun p hp => (e4 p hp).below hb⟩
theorem SrcAt.below {w w' : World} {X : PP.Src} {v1 v2 v3 v4 : Value} (h : SrcAt w X v1 v2 v3 v4) (hb : Below w.heap.size w w') : SrcAt w' X v1 v2 v3 v4 := by
  obtain ⟨h1, h2, ⟨hs, e1, e2, e3⟩, ⟨hc, e4, e5, e6⟩⟩ := h
  exact ⟨Row.below h1 hb, Row.below h2 hb, ⟨hs, e1, Row.below e2 hb, fun p hp => ItemsAt.below (e3 p hp) hb⟩, ⟨hc, e4, Row.below e5 hb, fun p hp => ItemsAt.below (e6 p hp) hb⟩⟩

/-- A part of a block is loaded as one struct. -/
theorem run_loadVar_piece {P : Program} (w : World) (g o : Nat) (ty : TypeId) (cs : Array Value) (d : TypeDesc) (hg : ∀ j u, cs[j]? = some u → w.cell? ⟨g, o + j, none⟩ = some u)
    (hu : P.underlying ty = some d) (hd : (match d with | .struct _ | .array _ _ => true | _ => false) = true) (hi : (P.info? ty).map (·.size) = some cs.size) :
    (loadVar ty ⟨g, o, none⟩).run P w = .ok (.agg cs) w := by
  have hl : (loadCells ⟨g, o, none⟩ cs.toList.length).run P w = .ok cs.toList.toArray w :=
    run_loadCells_list (P := P) w ⟨g, o, none⟩ cs.toList (fun j v hv => by
      have hadd : (⟨g, o, none⟩ : Addr).add j = ⟨g, o + j, none⟩ := by unfold Addr.add; split <;> simp_all
      rw [hadd]
      exact hg j v (by simpa using hv))
  cases hq : P.info? ty with
  | none => simp [hq] at hi
  | some i =>
    have hs : i.size = cs.size := by simpa [hq] using hi
    have hagg : (isAgg ty).run P w = .ok true w := by
      unfold isAgg
      rw [Sem.run_bind, run_underlying hu w]
      cases d <;> simp_all
    simp only [Array.length_toList, Array.toArray_toList] at hl
    simp [loadVar, Sem.run_bind, hagg, sizeOf, typeInfo, hq, hs, hl]

theorem quiet_load {P : Program} {C : World → Prop} {a : Act} {o : Oper} {K : Act → Prop} (ty : TypeId) (x : Operand) (ho : o.op = .load ty x) (g off : Nat) (hx : a.eval x = .pointer (some ⟨g, off, none⟩)) (cs : Array Value) (d : TypeDesc)
    (hg : ∀ w, C w → ∀ j u, cs[j]? = some u → w.cell? ⟨g, off + j, none⟩ = some u) (hu : P.underlying ty = some d) (hd : (match d with | .struct _ | .array _ _ => true | _ => false) = true) (hi : (P.info? ty).map (·.size) = some cs.size)
    (hk : K (a.put o.dst (.agg cs))) : o.quiet P a C K := by
  refine ⟨_, fun w hw => ?_, hk⟩
  unfold Oper.quietAt execOp
  simp only [ho, hx, Instr.loadAt, Instr.sureAddr, Sem.run_bind, Sem.run_pure, Result.andThen_ok, run_loadVar_piece w g off ty cs d (hg w hw) hu hd hi]
  exact ⟨rfl, rfl⟩

theorem itemL_len' (p : PP.Item × Value) : (itemL p).length = 14 := rfl
theorem infoItem14 : (Tryz.prog.info? 93).map (·.size) = some 14 := by kernel_rfl

set_option maxRecDepth 100000 in
set_option maxHeartbeats 4000000 in
theorem same_items (v1 v2 : Value) (xs ys : List PP.Item) (w : World) (h1 : ItemsAt w v1 xs) (h2 : ItemsAt w v2 ys) (he : xs.map PP.Item.z = ys.map PP.Item.z) :
    Calls Tryz.prog 17 #[v1, v2, .bool false] w fun e w' => e = .returned (.bool true) ∧ Below w.heap.size w w' := by
  obtain ⟨hs1, e1, ⟨ad1, c1, hv1⟩, hm1, hk1⟩ := h1
  obtain ⟨hs2, e2, ⟨ad2, c2, hv2⟩, hm2, hk2⟩ := h2
  rw [← e1, ← e2, List.map_map, List.map_map] at he
  have H1 := hid'' hm1
  have H2 := hid'' hm2
  have K1 := hid'' hk1
  have K2 := hid'' hk2
  have HE := hid'' he
  have hlen := map_len he
  obtain ⟨L, hL⟩ : ∃ L, hs1.length = L := ⟨_, rfl⟩
  have HL := hid'' hL
  rw [hL] at hv1 hlen
  rw [hlen] at hv2
  have HL2 := hid'' hlen
  have lim : L ≤ maxLen := by
    obtain ⟨a, c, e, l, m⟩ := hm1.len
    rw [← hL]
    exact Nat.le_trans l m
  unfold maxLen at lim
  subst hv1 hv2
  clear hm1 hm2 hk1 hk2 he hL hlen e1 e2 xs ys
  go_enter Tryz.func17, Tryz.ntmps17
  go_wp2
  go_loopw [7] (fun i wr => ∃ k : Nat, k ≤ L ∧ i = .int .i64 k ∧ Hid (Below w.heap.size w wr)) (fun i _ => L - (intOf i).toNat)
  case atStart => exact ⟨0, by omega, rfl, Below.refl _ _⟩
  case round =>
    obtain ⟨k, hk, rfl, HB⟩ := hrel
    by_cases hkL : k < L
    · have k1 : k < hs1.length := by rw [HL.out]; exact hkL
      have k2 : k < hs2.length := by rw [HL2.out]; exact hkL
      have hzz := map_at HE.out k k1 k2
      have o1 := K1.out hs1[k] (List.getElem_mem k1)
      have o2 := K2.out hs2[k] (List.getElem_mem k2)
      obtain ⟨g, o, cap, hv, hg, -, -, hc⟩ := many_load itemL_len' H1.out k k1
      obtain ⟨rfl, -⟩ : ad1 = some ⟨g, o, none⟩ ∧ _ := by simpa using hv
      obtain ⟨g', o', cap', hv', hg', -, -, hc'⟩ := many_load itemL_len' H2.out k k2
      obtain ⟨rfl, -⟩ : ad2 = some ⟨g', o', none⟩ ∧ _ := by simpa using hv'
      clear hv hv'
      obtain ⟨x, hx1⟩ : ∃ s, hs1[k] = s := ⟨_, rfl⟩
      obtain ⟨y, hx2⟩ : ∃ s, hs2[k] = s := ⟨_, rfl⟩
      rw [hx1] at hzz hc o1
      rw [hx2] at hzz hc' o2
      have kS : Hid (∀ W, Below w.heap.size w W → Calls Tryz.prog 30 #[.agg (itemL x).toArray, .agg (itemL y).toArray, .bool false] W fun e w' => e = .returned (.bool true) ∧ Below W.heap.size W w') :=
        fun W hW => same_item x y W (ItemOk.below o1 hW) (ItemOk.below o2 hW) hzz
      have s1 : (itemL x).toArray.size = 14 := rfl
      have s2 : (itemL y).toArray.size = 14 := rfl
      have C1 : Hid (∀ W, Below w.heap.size w W → ∀ j u, (itemL x).toArray[j]? = some u → W.cell? ⟨g, o + k * 14 + j, none⟩ = some u) := fun W hW j u hj => (hW.cell (p := ⟨g, _, none⟩) hg).trans (hc j u (by simpa using hj))
      have C2 : Hid (∀ W, Below w.heap.size w W → ∀ j u, (itemL y).toArray[j]? = some u → W.cell? ⟨g', o' + k * 14 + j, none⟩ = some u) := fun W hW j u hj => (hW.cell (p := ⟨g', _, none⟩) hg').trans (hc' j u (by simpa using hj))
      generalize (itemL x).toArray = cx at kS C1 s1
      generalize (itemL y).toArray = cy at kS C2 s2
      have hne := Grown.some wr
      have hki : (k : Int) < (L : Int) := by omega
      clear hc hc' hx1 hx2 o1 o2 hzz
      go_wp2
      refine wp_region_grow (by kernel_rfl) (by kernel_rfl) ?_
      go_big_quiet_step (fail)
      go_big_quiet_step (fail)
      go_big_quiet_step (fail)
      go_big_quiet_want
      refine quiet_load 93 _ rfl g (o + k * 14) rfl cx _ (fun _ ⟨G, hG⟩ => by rw [hG]; exact C1.out _ (chain HB.out G.below)) Tryz.underlying93 rfl (by rw [infoItem14, s1]) ?_
      go_big_quiet_on
      simp only [Act.put, List.setIfInBounds_toArray, List.set_cons_succ, List.set_cons_zero]
      go_big_quiet_step (fail)
      go_big_quiet_step (fail)
      go_big_quiet_step (fail)
      go_big_quiet_want
      refine quiet_load 93 _ rfl g' (o' + k * 14) rfl cy _ (fun _ ⟨G, hG⟩ => by rw [hG]; exact C2.out _ (chain HB.out G.below)) Tryz.underlying93 rfl (by rw [infoItem14, s2]) ?_
      go_big_quiet_on
      simp only [Act.put, List.setIfInBounds_toArray, List.set_cons_succ, List.set_cons_zero]
      repeat (go_big_quiet_step ((go_at_call 30; exact grow_of (kS.out _ (chain HB.out (Grown.below _))))))
      refine wpQuiet_nil ?_
      rintro _ ⟨G, rfl⟩
      go_wp2
      go_roundw
      case rel => exact ⟨k + 1, by omega, by go_num, chain HB.out G.below⟩
      case measure => simp [intOf]; omega
    · obtain rfl : k = L := by omega
      go_wp2
      go_ret
      exact ⟨rfl, HB.out⟩

end Go.Proofs.YtenmkopiddmieabGreatDoor

/-
  Whether a color is there, a color that is added, whether two points are the same: walked over the program.
-/
import Derived.Test.YtcnlkdoifogkbaaGreatDoorMake2
import Derived.Test.YtcnlkdoifogkbaaGreatDoorIconCols
namespace Go.Proofs.YtcnlkdoifogkbaaGreatDoor
open Go.RowKit

set_option maxRecDepth 20000 in
theorem samecol_any (a b : IC.Col) (w : World) :
    Calls Tryz.prog 40 #[.agg a.cells.toArray, .agg b.cells.toArray] w fun e w' => e = .returned (.bool (IC.sameCol a b)) ∧ Below w.heap.size w w' := by
  obtain ⟨ar, ag, ab, aa⟩ := a
  obtain ⟨br, bg, bb, ba⟩ := b
  have e : IC.sameCol ⟨ar, ag, ab, aa⟩ ⟨br, bg, bb, ba⟩ = ((ar == br) && ((ag == bg) && ((ab == bb) && (aa == ba)))) := rfl
  rw [e]
  clear e
  simp only [IC.Col.cells]
  have B0 : Hid (∀ o o', Below w.heap.size w ((w.alloc o).alloc o')) := fun o o' => ((Below.refl _ _).alloc (by omega) _).alloc (by simp) _
  go_enter Tryz.func40, Tryz.ntmps40
  cases h1 : (ar == br)
  · go_wp2
    go_ret
    exact ⟨ret_bool (by simp), B0.out _ _⟩
  cases h2 : (ag == bg)
  · go_wp2
    go_ret
    exact ⟨ret_bool (by simp), B0.out _ _⟩
  cases h3 : (ab == bb) <;>
  · go_wp2
    go_ret
    exact ⟨ret_bool (by simp), B0.out _ _⟩

theorem samept_any (ax ay bx bY : Int) (w : World) :
    Calls Tryz.prog 25 #[.agg #[.int .i64 ax, .int .i64 ay], .agg #[.int .i64 bx, .int .i64 bY]] w fun e w' => e = .returned (.bool ((ax == bx) && (ay == bY))) ∧ Below w.heap.size w w' := by
  have B0 : Hid (∀ o o', Below w.heap.size w ((w.alloc o).alloc o')) := fun o o' => ((Below.refl _ _).alloc (by omega) _).alloc (by simp) _
  go_enter Tryz.func25, Tryz.ntmps25
  cases h1 : (ax == bx) <;>
  · go_wp2
    go_ret
    exact ⟨ret_bool (by simp), B0.out _ _⟩

theorem Own.manyN {α : Type} {w : World} {B : Nat} {t : TypeId} {size : Nat} {f : α → List Value} {ad : Option Addr} {cap n : Nat} {l : List α} (h : Own w B t size f ad cap l) (hn : l.length = n) : Many w t size f (.slice ad n cap) l := hn ▸ h.many

theorem Blk.drew {w : World} {b : Nat} {t : TypeId} {a : Array Value} (h : Blk w b t a) : Blk w.drew b t a := h

theorem Own.drew {α : Type} {w : World} {B : Nat} {t : TypeId} {size : Nat} {f : α → List Value} {ad : Option Addr} {cap : Nat} {l : List α} (h : Own w B t size f ad cap l) : Own w.drew B t size f ad cap l := h

theorem cells_icon {w : World} {b : Nat} {a0 a1 a2 a3 a4 : Value} {t : TypeId} (h : Blk w b t #[a0, a1, a2, a3, a4]) : (w.cell? ⟨b, 0, none⟩ = some a0 ∧ w.cell? ⟨b, 1, none⟩ = some a1 ∧ w.cell? ⟨b, 2, none⟩ = some a2 ∧ w.cell? ⟨b, 3, none⟩ = some a3 ∧ w.cell? ⟨b, 4, none⟩ = some a4) ∧ w.frozen? ⟨b, 4, none⟩ = false :=
  ⟨⟨h.cell 0, h.cell 1, h.cell 2, h.cell 3, h.cell 4⟩, h.frozen 4⟩

/-- Where a color is found: nowhere, or at a place that has it. -/
def Found (cols : List IC.Col) (c : IC.Col) (r : Int) : Prop := (r = -1 ∧ ∀ x ∈ cols, IC.sameCol x c = false) ∨ ∃ (j : Nat) (h : j < cols.length), r = (j : Int) ∧ IC.sameCol cols[j] c = true

/-- The first place of a color, from a place on. -/
def findFrom (c : IC.Col) : Nat → List IC.Col → Int
  | _, [] => -1
  | k, x :: r => if IC.sameCol x c then (k : Int) else findFrom c (k + 1) r

theorem found_from (c : IC.Col) : ∀ (l : List IC.Col) (k : Nat), (findFrom c k l = -1 ∧ ∀ x ∈ l, IC.sameCol x c = false) ∨ ∃ (j : Nat) (h : j < l.length), findFrom c k l = ((k + j : Nat) : Int) ∧ IC.sameCol l[j] c = true := by
  intro l
  induction l with
  | nil => intro k; exact .inl ⟨rfl, fun _ h => absurd h (by simp)⟩
  | cons x r ih =>
    intro k
    unfold findFrom
    cases hx : IC.sameCol x c
    · rw [if_neg (by decide)]
      rcases ih (k + 1) with ⟨h1, h2⟩ | ⟨j, hj, h1, h2⟩
      · exact .inl ⟨h1, fun y hy => by rcases List.mem_cons.1 hy with rfl | hy; · exact hx
                                       · exact h2 y hy⟩
      · exact .inr ⟨j + 1, by simpa using hj, by rw [h1]; congr 1; omega, by simpa using h2⟩
    · exact .inr ⟨0, by simp, by simp, by simpa using hx⟩

theorem found_of (cols : List IC.Col) (c : IC.Col) : Found cols c (findFrom c 0 cols) := by
  rcases found_from c cols 0 with h | ⟨j, hj, h1, h2⟩
  · exact .inl h
  · exact .inr ⟨j, hj, by simpa using h1, h2⟩

set_option maxRecDepth 20000 in
set_option maxHeartbeats 1000000 in
theorem find_any (cols : List IC.Col) (vc : Value) (c : IC.Col) (w : World) (h : Many w 66 4 IC.Col.cells vc cols) :
    Calls Tryz.prog 41 #[vc, .agg c.cells.toArray] w fun e w' => e = .returned (.int .i64 (findFrom c 0 cols)) ∧ Below w.heap.size w w' := by
  have HM : Hid (Many w 66 4 IC.Col.cells vc cols) := h
  obtain ⟨ad, cap, hv, hl1, hl2⟩ := HM.out.len
  unfold maxLen at hl2
  obtain ⟨L, hL⟩ : ∃ L, cols.length = L := ⟨_, rfl⟩
  have HL : Hid (cols.length = L) := hL
  rw [hL] at hv hl1
  subst hv
  clear h hL
  obtain ⟨ar, ag, ab, aa⟩ := c
  simp only [IC.Col.cells]
  obtain ⟨R, hR⟩ : ∃ R, findFrom ⟨ar, ag, ab, aa⟩ 0 cols = R := ⟨_, rfl⟩
  rw [hR]
  have HR : Hid (findFrom ⟨ar, ag, ab, aa⟩ 0 (cols.drop 0) = R) := by rw [List.drop_zero]; exact hR
  clear hR
  have B0 : Hid (∀ o, Below w.heap.size w (w.alloc o)) := fun o => (Below.refl _ _).alloc (by omega) _
  go_enter Tryz.func41, Tryz.ntmps41
  go_wp2
  go_loopw [5] (fun i wr => ∃ k : Nat, k ≤ L ∧ i = .int .i64 k ∧ Hid (findFrom ⟨ar, ag, ab, aa⟩ k (cols.drop k) = R) ∧ Hid (Below (w.alloc (.cells #[.int .u8 ar, .int .u8 ag, .int .u8 ab, .int .u8 aa] 66)).heap.size (w.alloc (.cells #[.int .u8 ar, .int .u8 ag, .int .u8 ab, .int .u8 aa] 66)) wr)) (fun i _ => L - (intOf i).toNat)
  case atStart => exact ⟨0, by omega, rfl, HR, Below.refl _ _⟩
  case round =>
    obtain ⟨k, hk, rfl, HK, HB⟩ := hrel
    obtain ⟨p, r⟩ := boxes1 HB.out
    have z1 := sizes1 HB.out
    by_cases hkL : k < L
    · have hks : k < cols.length := by rw [HL.out]; exact hkL
      obtain ⟨g, o, cap', hv', hg, -, -, hc⟩ := HM.out.at col_len k hks
      obtain ⟨rfl, -⟩ : ad = some ⟨g, o, none⟩ ∧ _ := by simpa using hv'
      clear hv'
      obtain ⟨s, hs⟩ : ∃ s, cols[k] = s := ⟨_, rfl⟩
      rw [hs] at hc
      have hsm := fun W => samecol_any s ⟨ar, ag, ab, aa⟩ W
      have HK2 : Hid (R = if IC.sameCol s ⟨ar, ag, ab, aa⟩ then (k : Int) else findFrom ⟨ar, ag, ab, aa⟩ (k + 1) (cols.drop (k + 1))) := by rw [← HK.out, List.drop_eq_getElem_cons hks, hs]; exact rfl
      obtain ⟨t, ht⟩ : ∃ t, IC.sameCol s ⟨ar, ag, ab, aa⟩ = t := ⟨_, rfl⟩
      rw [ht] at hsm HK2
      clear ht
      obtain ⟨br, bg, bb, ba⟩ := s
      have kS : Hid (∀ W, Calls Tryz.prog 40 #[.agg #[.int .u8 br, .int .u8 bg, .int .u8 bb, .int .u8 ba], .agg #[.int .u8 ar, .int .u8 ag, .int .u8 ab, .int .u8 aa]] W fun e w' => e = .returned (.bool t) ∧ Below W.heap.size W w') := hsm
      have zg : g < wr.heap.size := by omega
      have f0 := Grown.cell (w := wr) zg (show wr.cell? ⟨g, o + k * 4, none⟩ = some (.int .u8 br) by rw [r g _ hg]; exact hc 0 _ rfl)
      have f1 := Grown.cell (w := wr) zg (show wr.cell? ⟨g, o + k * 4 + 1, none⟩ = some (.int .u8 bg) by rw [r g _ hg]; exact hc 1 _ rfl)
      have f2 := Grown.cell (w := wr) zg (show wr.cell? ⟨g, o + k * 4 + 2, none⟩ = some (.int .u8 bb) by rw [r g _ hg]; exact hc 2 _ rfl)
      have f3 := Grown.cell (w := wr) zg (show wr.cell? ⟨g, o + k * 4 + 3, none⟩ = some (.int .u8 ba) by rw [r g _ hg]; exact hc 3 _ rfl)
      have h0 := Grown.cell (w := wr) z1 (show wr.cell? ⟨w.heap.size, 0, none⟩ = some (.int .u8 ar) from p 0)
      have h1 := Grown.cell (w := wr) z1 (show wr.cell? ⟨w.heap.size, 1, none⟩ = some (.int .u8 ag) from p 1)
      have h2 := Grown.cell (w := wr) z1 (show wr.cell? ⟨w.heap.size, 2, none⟩ = some (.int .u8 ab) from p 2)
      have h3 := Grown.cell (w := wr) z1 (show wr.cell? ⟨w.heap.size, 3, none⟩ = some (.int .u8 aa) from p 3)
      have hne := Grown.some wr
      have hki : (k : Int) < (L : Int) := by omega
      clear hc r hs p hsm
      cases t
      · go_wp2
        refine wp_region_grow (by kernel_rfl) (by kernel_rfl) ?_
        repeat (go_big_quiet_step ((go_at_call 40; exact grow_of (kS.out _))))
        refine wpQuiet_nil ?_
        rintro _ ⟨G, rfl⟩
        go_wp2
        go_roundw
        case rel => exact ⟨k + 1, by omega, by go_num, (HK2.out.trans (if_neg (by decide))).symm, chain HB.out G.below⟩
        case measure => simp [intOf]; omega
      · go_wp2
        refine wp_region_grow (by kernel_rfl) (by kernel_rfl) ?_
        repeat (go_big_quiet_step ((go_at_call 40; exact grow_of (kS.out _))))
        refine wpQuiet_nil ?_
        rintro _ ⟨G, rfl⟩
        go_wp2
        go_ret
        exact ⟨ret_int (HK2.out.trans (if_pos (by simp))).symm, chain (B0.out _) (chain HB.out G.below)⟩
    · obtain rfl : k = L := by omega
      have HR2 : Hid (R = -1) := by rw [← HK.out, List.drop_of_length_le (by rw [HL.out]; omega)]; exact rfl
      clear r p
      go_wp2
      go_ret
      exact ⟨ret_int HR2.out.symm, chain (B0.out _) HB.out⟩

theorem step_push {P : Program} {α : Type} {ops : Array Oper} {o : Oper} {a : Act} {w : World} {K : Act → World → Prop} {Q : Exit → Act → World → Prop} {E : Prop}
    (hgd : o.guard = none) (s x : Operand) (t : TypeId) (ho : o.op = Op.call { callee := Callee.builtin Builtin.append, args := #[s, x], argTypes := #[t, t] })
    (B : Nat) (e : TypeId) (z : Value) (size bytes : Nat) (ht : P.underlying t = some (.slice e)) (hi : (P.info? e).map (fun i => (i.zero, i.size, i.bytes)) = some (some z, size, bytes))
    (hzs : z.cells.size = size) (hsz : 0 < size) (f : α → List Value) (hf : ∀ y, (f y).length = size)
    {ad : Option Addr} {cap : Nat} (l : List α) (y : α) (n : Nat) (hn : l.length = n) (hs : a.eval s = .slice ad n cap) (hown : Own w B e size f ad cap l) (b : Nat) (hx : a.eval x = .slice (some ⟨b, 0, none⟩) 1 1)
    (hnews : ∀ j u, (f y)[j]? = some u → w.cell? ((⟨b, 0, none⟩ : Addr).add j) = some u) (h1 : ∀ u ∈ f y, u.oneCell' = true)
    (hbytes : (n + 1) * bytes ≤ 140737488355328) (h63 : n ≤ 1000000) (hB : B ≤ w.heap.size)
    (hK : ∀ ad' cap' w', Own w' B e size f ad' cap' (l ++ [y]) → w.grownBy w' (ad.map (·.block)) → K (a.put o.dst (.slice ad' (n + 1) cap')) w') :
    if Region.wanted o (yielded ops a.tmps) = true then Oper.wp P o a w K Q else E := by
  have hw : Region.wanted o (yielded ops a.tmps) = true := by simp [Region.wanted, hgd]
  rw [if_pos hw]
  subst hn
  obtain ⟨i, hi0, hi1⟩ := Option.map_eq_some_iff.1 hi
  have hz : i.zero = some z := congrArg (·.1) hi1
  have hz1 : i.size = size := congrArg (·.2.1) hi1
  have hz2 : i.bytes = bytes := congrArg (·.2.2) hi1
  refine wp_append_own w s x t ho B e i z size bytes ht hi0 hz hz1 hz2 hzs hsz _ l.length (l.flatMap f) hs hown ⟨b, 0, none⟩ 1 1 (f y) hx (by rw [hf, Nat.one_mul]) hnews h1 (by unfold maxLen; omega) hbytes hB ?_
  intro v' w' hown' hg hnil
  have hlen : (l ++ [y]).length = l.length + 1 := by simp
  have hfl : l.flatMap f ++ f y = (l ++ [y]).flatMap f := by simp
  rw [hfl, ← hlen] at hown'
  have hrow : (Value.slice ad l.length cap).ownBlock = ad.map (·.block) := by cases ad <;> rfl
  rw [hrow] at hg
  rcases hown'.2 with ⟨e1, e2⟩ | ⟨g, c, cur, e1, e2⟩
  · simp at e2
  · have e3 : v' = .slice (some ⟨g, 0, none⟩) (l.length + 1) c := by rw [e1, hlen]
    rw [e3] at hown' ⊢
    exact hK _ _ w' (by rw [← hlen] at hown'; exact hown') hg

/-- What has been written where a color was added: its list, and the icon's own word of it. -/
def Added (w : World) (ib : Nat) (ad : Option Addr) (v : Value) (w' : World) : Prop := ∃ w0 w1, Below w.heap.size w w0 ∧ w0.grownBy w1 (ad.map (·.block)) ∧ w' = w1.setCell ⟨ib, 3, none⟩ v

set_option maxRecDepth 20000 in
set_option maxHeartbeats 1000000 in
theorem add_any (ib B : Nat) (a0 a1 a2 : Int) (ad adm : Option Addr) (cap nm capm n : Nat) (cols : List IC.Col) (c : IC.Col) (w : World) (hn : cols.length = n) (hn1 : n ≤ 1000)
    (hi : Blk w ib 27 #[.int .i64 a0, .int .i64 a1, .int .i64 a2, .slice ad n cap, .slice adm nm capm]) (ho : Own w B 66 4 IC.Col.cells ad cap cols) (hB : ib < B) (hB' : B ≤ w.heap.size) :
    Calls Tryz.prog 22 #[.pointer (some ⟨ib, 0, none⟩), .agg c.cells.toArray] w fun e w' => ∃ k : Nat, e = .returned (.int .i64 k) ∧ ((k < n ∧ Below w.heap.size w w') ∨ (k = n ∧ (∀ x ∈ cols, IC.sameCol x c = false) ∧ ∃ ad' cap', Own w' B 66 4 IC.Col.cells ad' cap' (cols ++ [c]) ∧ Added w ib ad (.slice ad' (n + 1) cap') w')) := by
  have kf : Hid (∀ W, Below w.heap.size w W → Calls Tryz.prog 41 #[.slice ad n cap, .agg c.cells.toArray] W fun e w' => e = .returned (.int .i64 (findFrom c 0 cols)) ∧ Below W.heap.size W w') := fun W hb => find_any cols _ c W (Row.below (ho.manyN hn) hb)
  have hF := found_of cols c
  have HI : Hid (Blk w ib 27 #[.int .i64 a0, .int .i64 a1, .int .i64 a2, .slice ad n cap, .slice adm nm capm]) := hi
  have HO : Hid (Own w B 66 4 IC.Col.cells ad cap cols) := ho
  have hib := hi.lt
  obtain ⟨R, hR⟩ : ∃ R, findFrom c 0 cols = R := ⟨_, rfl⟩
  rw [hR] at kf hF
  clear hR hi ho
  have HCo : Hid (∀ u ∈ c.cells, u.oneCell' = true) := col_one c
  obtain ⟨cr, cg, cb, ca⟩ := c
  simp only [IC.Col.cells] at kf ⊢
  go_enter Tryz.func22, Tryz.ntmps22
  go_wp2
  obtain ⟨W, hW⟩ : ∃ W, w.alloc (.cells #[.int .u8 cr, .int .u8 cg, .int .u8 cb, .int .u8 ca] 66) = W := ⟨_, rfl⟩
  have HBW : Hid (Below w.heap.size w W) := hW ▸ (Below.refl _ _).alloc (Nat.le_refl _) _
  have HIW : Hid (Blk W ib 27 #[.int .i64 a0, .int .i64 a1, .int .i64 a2, .slice ad n cap, .slice adm nm capm]) := hW ▸ HI.out.alloc _
  have HCW : Hid (Blk W w.heap.size 66 #[.int .u8 cr, .int .u8 cg, .int .u8 cb, .int .u8 ca]) := hW ▸ blk_new w 66 _
  rw [hW]
  clear hW
  obtain ⟨⟨i0, i1, i2, i3, i4⟩, i5⟩ := cells_icon HIW.out
  obtain ⟨⟨p0, p1, p2, p3⟩, q0, q1, q2, q3⟩ := cells_four HCW.out
  have zW := HCW.out.lt
  have ziW := HIW.out.lt
  have f3 := Grown.cell (w := W) ziW i3
  have h0 := Grown.cell (w := W) zW p0
  have h1 := Grown.cell (w := W) zW p1
  have h2 := Grown.cell (w := W) zW p2
  have h3 := Grown.cell (w := W) zW p3
  have hne := Grown.some W
  clear i0 i1 i2 i3 i4 i5 p0 p1 p2 p3 q0 q1 q2 q3
  refine wp_region_grow (by kernel_rfl) (by kernel_rfl) ?_
  repeat (go_big_quiet_step ((go_at_call 41; exact grow_of (kf.out _ (chain HBW.out (Grown.below _))))))
  refine wpQuiet_nil ?_
  rintro _ ⟨G, rfl⟩
  obtain ⟨V, hV⟩ : ∃ V, G.w = V := ⟨_, rfl⟩
  have HBV : Hid (Below W.heap.size W V) := hV ▸ G.below
  rw [hV]
  clear hV f3 h0 h1 h2 h3
  have HIV : Hid (Blk V ib 27 #[.int .i64 a0, .int .i64 a1, .int .i64 a2, .slice ad n cap, .slice adm nm capm]) := HIW.out.below HBV.out ziW
  have HCV : Hid (Blk V w.heap.size 66 #[.int .u8 cr, .int .u8 cg, .int .u8 cb, .int .u8 ca]) := HCW.out.below HBV.out zW
  have HOV : Hid (Own V B 66 4 IC.Col.cells ad cap cols) := HO.out.below (chain HBW.out HBV.out) (Nat.le_refl _)
  rcases hF with ⟨rfl, hno⟩ | ⟨k, hk, rfl, hyes⟩
  · have HN : Hid (∀ x ∈ cols, IC.sameCol x ⟨cr, cg, cb, ca⟩ = false) := hno
    clear hno
    obtain ⟨⟨i0, i1, i2, i3, i4⟩, i5⟩ := cells_icon HIV.out
    obtain ⟨⟨p0, p1, p2, p3⟩, q0, q1, q2, q3⟩ := cells_four HCV.out
    have i6 := HIV.out.frozen 3
    have zV := HCV.out.lt
    have ziV := HIV.out.lt
    have hBV : B ≤ V.heap.size := by have := HBV.out.size; have := HBW.out.size; omega
    go_wp2
    go_region_law (refine step_push (ad := ad) (cap := cap) rfl (.tmp 19) (.tmp 21) 24 rfl B 66 _ 4 4 Tryz.underlying24 infoColor rfl (by decide) IC.Col.cells col_len cols ⟨cr, cg, cb, ca⟩ n hn (by simp [Act.eval]) (by first | exact (HOV.out.drew).alloc _ | exact (HOV.out.alloc _).drew) V.heap.size (by simp [Act.eval]) (new_cells _ _ _) HCo.out (by omega) (by omega) (by simp; omega) ?_
                   intro ad' cap' w' hown' hg'
                   have HO' : Hid (Own w' B 66 4 IC.Col.cells ad' cap' (cols ++ [⟨cr, cg, cb, ca⟩])) := hown'
                   have hbi : Blk w' ib 27 #[.int .i64 a0, .int .i64 a1, .int .i64 a2, .slice ad n cap, .slice adm nm capm] := Blk.grown (by first | exact (HIV.out.drew).alloc _ | exact (HIV.out.alloc _).drew) hg' (fun z e => by have := (HOV.out.lt z e).1; omega)
                   have HA : Hid (∃ w0, Below w.heap.size w w0 ∧ w0.grownBy w' (ad.map (·.block))) := ⟨_, by first | exact (chain HBW.out HBV.out).drew.alloc (by show _ ≤ V.heap.size; omega) _ | exact ((chain HBW.out HBV.out).alloc (by omega) _).drew, hg'⟩
                   have k3 := hbi.cell 3
                   have k4 := hbi.frozen 3
                   have zi' := hbi.lt
                   simp at k3
                   clear hown' hg' hbi)
    all_goals
      go_wp2
      go_ret
      obtain ⟨w0, hb0, hg0⟩ := HA.out
      exact ⟨n, rfl, .inr ⟨rfl, HN.out, ad', cap', HO'.out.setLow (by show ib < B; omega) _, w0, w', hb0, hg0, rfl⟩⟩
  · have hkn : k < n := by omega
    have hki : (0 : Int) ≤ (k : Int) := by omega
    clear hk hyes
    go_wp2
    go_ret
    exact ⟨k, rfl, .inl ⟨hkn, chain HBW.out HBV.out⟩⟩

end Go.Proofs.YtcnlkdoifogkbaaGreatDoor

import Derived.WalkKit
import Derived.WalkSpells
import Derived.WalkLawsBesides
import Derived.Deep.QuietTactic
import Derived.BigQuiet
import Derived.Deep.RegionWith
import Derived.Deep.RegionLaw
import Derived.Deep.RegionHeld3
import Derived.Sort.AtCall
import Derived.OwnWalk
import Derived.Laws.IdiomStrings
import Derived.Test.YtenmkopiddmieabGreatDoorColorPlain
import Derived.Test.YtenmkopiddmieabGreatDoorWordSplit
/-
  What the color roads lean on: bytes as the program's values, rows of bytes of the call's own, appending to them where there is room, in a region that draws its order too.
-/
namespace Go.Proofs.YtenmkopiddmieabGreatDoor
open Go.RowKit
namespace CW

theorem ret_int {k : IntKind} {a b : Int} (h : a = b) : Ending.returned (.int k a) = .returned (.int k b) := by rw [h]

theorem below_drewN {B : Nat} {a w : World} (h : Below B a w) (n : Nat) : Below B a (w.drewN n) := ⟨h.os, h.tape, h.output, h.size, h.block⟩

theorem infoByte : (Tryz.prog.info? 5).map (fun i => (i.zero, i.size, i.bytes)) = some (some (.int .u8 0), 1, 1) := by kernel_rfl

/-- Bytes as the program's values. -/
def vals (bs : List Nat) : List Value := bs.map fun (b : Nat) => Value.int .u8 (b : Int)

theorem vals_length (bs : List Nat) : (vals bs).length = bs.length := by simp [vals]
theorem vals_append (a b : List Nat) : vals (a ++ b) = vals a ++ vals b := by simp [vals]
theorem vals_one (bs : List Nat) : ∀ u ∈ vals bs, u.oneCell' = true := by
  intro u hu
  obtain ⟨_, _, rfl⟩ := List.mem_map.1 hu
  rfl
theorem vals_at (bs : List Nat) (j : Nat) (h : j < bs.length) : (vals bs)[j]? = some (.int .u8 (bs[j] : Int)) := by simp [vals, h]

/-- The cells of a list that was laid into new memory. -/
theorem new_cells (w : World) (e : TypeId) (l : List Value) : ∀ (j : Nat) (u : Value), l[j]? = some u → (w.alloc (Obj.cells l.toArray e)).cell? ((⟨w.heap.size, 0, none⟩ : Addr).add j) = some u := by
  intro j u hj
  rw [Addr.add_lit, Nat.zero_add, World.cell?_alloc_mark]
  simpa using hj

theorem step_append_fits {P : Program} {ops : Array Oper} {o : Oper} {a : Act} {w : World} {K : Act → World → Prop} {Q : Exit → Act → World → Prop} {E : Prop}
    (hg : o.guard = none) (s x : Operand) (t : TypeId) (hop : o.op = Op.call { callee := Callee.builtin Builtin.append, args := #[s, x], argTypes := #[t, t] })
    (base : Nat) (e : TypeId) (i : TypeInfo) (size : Nat) (h1 : P.underlying t = some (.slice e)) (h2 : P.info? e = some i) (h4 : i.size = size)
    (g k cap : Nat) (xs : List Value) (hs : a.eval s = .slice (some ⟨g, 0, none⟩) k cap) (hown : w.ownsRow base e size (.slice (some ⟨g, 0, none⟩) k cap) k xs) (ad : Addr) (m c : Nat) (news : List Value) (hx : a.eval x = .slice (some ad) m c) (hn : news.length = m * size)
    (hc : ∀ j u, news[j]? = some u → w.cell? (ad.add j) = some u) (h1c : ∀ u ∈ news, u.oneCell' = true) (b1 : k + m ≤ cap)
    (hK : ∀ w', w'.ownsRow base e size (.slice (some ⟨g, 0, none⟩) (k + m) cap) (k + m) (xs ++ news) → w.grownBy w' (some g) → K (a.put o.dst (.slice (some ⟨g, 0, none⟩) (k + m) cap)) w') :
    if Region.wanted o (yielded ops a.tmps) = true then Oper.wp P o a w K Q else E := by
  have hw : Region.wanted o (yielded ops a.tmps) = true := by simp [Region.wanted, hg]
  rw [if_pos hw]
  obtain ⟨w', hrun, r1, r2⟩ := run_append_fits (P := P) w base t o.type e i size h1 h2 h4 g k cap xs hown ad m c news hn hc h1c b1
  unfold Oper.wp
  simp [execOp, hop, resolve, invoke, builtin, hs, hx, hrun, Result.andThen]
  exact hK w' r1 r2

theorem put_below {w wr w' : World} {g : Nat} {o : Obj} (hb : Below g w wr) (hg : g < wr.heap.size) (h : (wr.alloc o).grownBy w' (some g)) : Below g w w' ∧ g < w'.heap.size := by
  refine ⟨(hb.alloc (by omega) o).grown h (by simp; omega) (by intro k hk; simp at hk; omega), ?_⟩
  have := h.size
  simp at this
  omega

theorem own_cells {w : World} {g n cap : Nat} {e : TypeId} {bs : List Nat} (h : w.ownsRow g e 1 (.slice (some ⟨g, 0, none⟩) n cap) n (vals bs)) : ∀ j (hj : j < bs.length), w.cell? ⟨g, j, none⟩ = some (.int .u8 (bs[j] : Int)) := by
  intro j hj
  have hl := h.1
  rw [vals_length, Nat.mul_one] at hl
  rcases h.2 with ⟨h', _⟩ | ⟨g', cap', cur, h', _, hg, _, _, hs, htake⟩
  · simp at h'
  · simp only [Value.slice.injEq, Option.some.injEq, Addr.mk.injEq, and_true, true_and] at h'
    obtain ⟨rfl, rfl⟩ := h'
    rw [cell_of_row w _ j _ _ _ hg]
    have := vals_at bs j hj
    rw [← htake, List.getElem?_take, if_pos (by omega)] at this
    simpa using this

/-- 'string(b)' of bytes that are known. -/
theorem conv_str {w : World} {ad : Addr} {cap : Nat} {l : List Nat} (h256 : ∀ c ∈ l, c < 256) (hc : ∀ j (hj : j < l.length), w.cell? (ad.add j) = some (.int .u8 (l[j] : Int))) :
    (convert 28 9 (.slice (some ad) l.length cap)).run Tryz.prog w = .ok (.string (CP.str l)) w := by
  have := run_convert_bytes_back (P := Tryz.prog) w 28 9 5 ad cap (l.map UInt8.ofNat) Tryz.underlying28 Tryz.underlying5 Tryz.underlying9 (fun j hj => by
    have hj' : j < l.length := by simpa using hj
    rw [hc j hj']
    simp [Nat.mod_eq_of_lt (h256 l[j] (List.getElem_mem _))])
  rw [List.length_map] at this
  exact this

theorem wpList_make_both {P : Program} (w : World) {ops : Array Oper} {rest : List Oper} {o : Oper} {a : Act} {Q : Exit → Act → World → Prop}
    (hg : o.guard = none) (l c : Operand) (t : TypeId) (hop : o.op = Op.makeSlice t l c)
    (e : TypeId) (i : TypeInfo) (z : Value) (h1 : P.underlying t = some (.slice e)) (h2 : P.info? e = some i) (h3 : i.zero = some z) (h4 : i.size = 1) (h5 : i.bytes = 1)
    (kl kc : IntKind) (L C : Int) (n m : Nat) (hl : a.eval l = .int kl L) (hc : a.eval c = .int kc C) (hL : L = (n : Int)) (hC : C = (m : Int)) (hnm : n ≤ m) (b : m ≤ 281474976710656)
    (hK : ∀ w', Hid (w'.heap[w.heap.size]? = some (.cells (madeCells z.cells m) e (0, 0))) → Below w.heap.size w w' → w'.heap.size = w.heap.size + 1 → wpList P ops Q rest (a.put o.dst (.slice (some ⟨w.heap.size, 0, none⟩) n m)) w') :
    wpList P ops Q (o :: rest) a w := by
  refine wpList_plain hg fun K hK' => ?_
  have hrun := run_make (P := P) w t e i z h1 h2 h3 kl kc L C (by omega) (by omega) (by rw [h5]; omega) (by omega)
  subst hL; subst hC
  simp only [Int.toNat_natCast, h4, Nat.mul_one] at hrun
  unfold Oper.wp
  simp [execOp, hop, hl, hc, hrun, Result.andThen]
  exact hK' _ _ (hK _ (heap_alloc_new w _) ((Below.refl _ _).alloc (Nat.le_refl _) _) (by simp))

/-- A row that was made, with nothing in it yet. -/
theorem own_empty {w : World} {g m : Nat} {z : Value} {e : TypeId} (hm : m ≤ 281474976710656) (h : w.heap[g]? = some (.cells (madeCells z.cells m) e (0, 0))) :
    w.ownsRow g e 1 (.slice (some ⟨g, 0, none⟩) 0 m) 0 [] :=
  ⟨rfl, .inr ⟨g, m, _, rfl, Nat.le_refl _, h, by omega, by unfold maxLen; omega, by rw [size_madeCells]; omega, by simp⟩⟩

/-- A color in memory. -/
theorem box_cells {w W : World} {v0 v1 v2 v3 : Value} {t : TypeId} {fr : Nat × Nat} (hb : Below (w.heap.size + 1) (w.alloc (.cells #[v0, v1, v2, v3] t fr)) W) :
    W.cell? ⟨w.heap.size, 0, none⟩ = some v0 ∧ W.cell? ⟨w.heap.size, 1, none⟩ = some v1 ∧ W.cell? ⟨w.heap.size, 2, none⟩ = some v2 ∧ W.cell? ⟨w.heap.size, 3, none⟩ = some v3 := by
  refine ⟨?_, ?_, ?_, ?_⟩
  · rw [hb.cell (p := ⟨w.heap.size, 0, none⟩) (by simp), World.cell?_alloc_mark]; rfl
  · rw [hb.cell (p := ⟨w.heap.size, 1, none⟩) (by simp), World.cell?_alloc_mark]; rfl
  · rw [hb.cell (p := ⟨w.heap.size, 2, none⟩) (by simp), World.cell?_alloc_mark]; rfl
  · rw [hb.cell (p := ⟨w.heap.size, 3, none⟩) (by simp), World.cell?_alloc_mark]; rfl

/-- Four cells of a block. -/
def Four (w : World) (b : Nat) (v0 v1 v2 v3 : Value) : Prop := b < w.heap.size ∧ w.cell? ⟨b, 0, none⟩ = some v0 ∧ w.cell? ⟨b, 1, none⟩ = some v1 ∧ w.cell? ⟨b, 2, none⟩ = some v2 ∧ w.cell? ⟨b, 3, none⟩ = some v3

theorem Four.below {w w' : World} {b : Nat} {v0 v1 v2 v3 : Value} (h : Four w b v0 v1 v2 v3) (hb : Below w.heap.size w w') : Four w' b v0 v1 v2 v3 := by
  obtain ⟨hl, h0, h1, h2, h3⟩ := h
  exact ⟨Nat.lt_of_lt_of_le hl hb.size, (hb.cell (p := ⟨b, 0, none⟩) hl).trans h0, (hb.cell (p := ⟨b, 1, none⟩) hl).trans h1, (hb.cell (p := ⟨b, 2, none⟩) hl).trans h2, (hb.cell (p := ⟨b, 3, none⟩) hl).trans h3⟩

theorem four_new (w : World) (v0 v1 v2 v3 : Value) (t : TypeId) (fr : Nat × Nat) : Four (w.alloc (.cells #[v0, v1, v2, v3] t fr)) w.heap.size v0 v1 v2 v3 := by
  refine ⟨by simp, ?_, ?_, ?_, ?_⟩ <;> (rw [World.cell?_alloc_mark]; rfl)

theorem size_alloc (w : World) (o : Obj) : (w.alloc o).heap.size = w.heap.size + 1 := by simp

theorem four_next (w : World) (o : Obj) (v0 v1 v2 v3 : Value) (t : TypeId) (fr : Nat × Nat) : Four ((w.alloc o).alloc (.cells #[v0, v1, v2, v3] t fr)) (w.heap.size + 1) v0 v1 v2 v3 := by
  have := four_new (w.alloc o) v0 v1 v2 v3 t fr
  rw [size_alloc] at this
  exact this

theorem Four.alloc {w : World} {b : Nat} {v0 v1 v2 v3 : Value} (h : Four w b v0 v1 v2 v3) (o : Obj) : Four (w.alloc o) b v0 v1 v2 v3 := h.below ((Below.refl _ _).alloc (Nat.le_refl _) _)

theorem below_of_drew {w w' : World} (h : Below w.drew.heap.size w.drew w') : Below w.heap.size w w' := ⟨h.os, h.tape, h.output, h.size, h.block⟩

theorem four_set0 {w : World} {b : Nat} {v0 v1 v2 v3 : Value} (h : Four w b v0 v1 v2 v3) (v : Value) : Four (w.setCell ⟨b, 0, none⟩ v) b v v1 v2 v3 := by
  obtain ⟨hl, h0, h1, h2, h3⟩ := h
  refine ⟨by simpa using hl, ?_, ?_, ?_, ?_⟩
  · exact World.cell?_setCell_same _ _ _ h0
  · rw [World.cell?_setCell_other (h := by simp)]; exact h1
  · rw [World.cell?_setCell_other (h := by simp)]; exact h2
  · rw [World.cell?_setCell_other (h := by simp)]; exact h3

theorem four_set1 {w : World} {b : Nat} {v0 v1 v2 v3 : Value} (h : Four w b v0 v1 v2 v3) (v : Value) : Four (w.setCell ⟨b, 1, none⟩ v) b v0 v v2 v3 := by
  obtain ⟨hl, h0, h1, h2, h3⟩ := h
  refine ⟨by simpa using hl, ?_, ?_, ?_, ?_⟩
  · rw [World.cell?_setCell_other (h := by simp)]; exact h0
  · exact World.cell?_setCell_same _ _ _ h1
  · rw [World.cell?_setCell_other (h := by simp)]; exact h2
  · rw [World.cell?_setCell_other (h := by simp)]; exact h3

theorem four_set2 {w : World} {b : Nat} {v0 v1 v2 v3 : Value} (h : Four w b v0 v1 v2 v3) (v : Value) : Four (w.setCell ⟨b, 2, none⟩ v) b v0 v1 v v3 := by
  obtain ⟨hl, h0, h1, h2, h3⟩ := h
  refine ⟨by simpa using hl, ?_, ?_, ?_, ?_⟩
  · rw [World.cell?_setCell_other (h := by simp)]; exact h0
  · rw [World.cell?_setCell_other (h := by simp)]; exact h1
  · exact World.cell?_setCell_same _ _ _ h2
  · rw [World.cell?_setCell_other (h := by simp)]; exact h3

theorem four_set3 {w : World} {b : Nat} {v0 v1 v2 v3 : Value} (h : Four w b v0 v1 v2 v3) (v : Value) : Four (w.setCell ⟨b, 3, none⟩ v) b v0 v1 v2 v := by
  obtain ⟨hl, h0, h1, h2, h3⟩ := h
  refine ⟨by simpa using hl, ?_, ?_, ?_, ?_⟩
  · rw [World.cell?_setCell_other (h := by simp)]; exact h0
  · rw [World.cell?_setCell_other (h := by simp)]; exact h1
  · rw [World.cell?_setCell_other (h := by simp)]; exact h2
  · exact World.cell?_setCell_same _ _ _ h3

theorem bcell {W w1 : World} (hb : Below W.heap.size W w1) : (∀ b o, b < W.heap.size → w1.cell? ⟨b, o, none⟩ = W.cell? ⟨b, o, none⟩) ∧ (∀ b o, b < W.heap.size → w1.frozen? ⟨b, o, none⟩ = W.frozen? ⟨b, o, none⟩) :=
  ⟨fun b o h => hb.cell (p := ⟨b, o, none⟩) h, fun b o h => hb.frozen (p := ⟨b, o, none⟩) h⟩

end CW
end Go.Proofs.YtenmkopiddmieabGreatDoor

/-
  What Parse of package color answers, walked over the program: the parts that the text tells, or the program's own error.
-/
namespace Go.Proofs.YtenmkopiddmieabGreatDoor
open Go.RowKit
namespace CW

theorem digit_any (c : Nat) (w : World) (hc : c < 256) : Calls Tryz.prog 102 #[.int .u8 c] w fun e w' => e = .returned (.int .i64 (CP.dig c)) ∧ w' = w := by
  by_cases h1 : 48 ≤ c ∧ c ≤ 57
  · have HD : Hid (CP.dig c = (c : Int) - 48) := if_pos h1
    have h2 := h1.1
    have h3 := h1.2
    go_enter Tryz.func102, Tryz.ntmps102
    go_wp2
    go_ret
    exact ⟨ret_int HD.out.symm, rfl⟩
  · by_cases h2 : 97 ≤ c ∧ c ≤ 102
    · have HD : Hid (CP.dig c = (c : Int) - 87) := by show _ = _; unfold CP.dig; rw [if_neg h1, if_pos h2]
      have h3 := h2.1
      have h4 := h2.2
      go_enter Tryz.func102, Tryz.ntmps102
      go_wp2
      go_ret
      exact ⟨ret_int (by rw [HD.out]; omega), rfl⟩
    · have HD : Hid (CP.dig c = -1) := by show _ = _; unfold CP.dig; rw [if_neg h1, if_neg h2]
      go_enter Tryz.func102, Tryz.ntmps102
      go_wp2
      all_goals
        go_ret
        exact ⟨ret_int HD.out.symm, rfl⟩

def ParsePost (w : World) (ea : Addr) (R : Option (List Nat)) (e : Ending) (w' : World) : Prop :=
  ((∃ r g b a : Nat, R = some [r, g, b, a] ∧ e = .returned (.tuple #[.agg #[.int .u8 r, .int .u8 g, .int .u8 b, .int .u8 a], .nilIface])) ∨
    R = none ∧ e = .returned (.tuple #[.agg #[.int .u8 0, .int .u8 0, .int .u8 0, .int .u8 0], .iface 167 (.pointer (some ea))])) ∧ Below w.heap.size w w'

set_option maxRecDepth 20000 in
set_option maxHeartbeats 1000000 in
theorem parse_len (s : ByteArray) (ea : Addr) (w : World) (hE : ErrT w ea) (h7 : s.size ≠ 7) (h9 : s.size ≠ 9) : Calls Tryz.prog 93 #[.string s] w (ParsePost w ea (CP.parse (CP.bytes s))) := by
  obtain ⟨e0, z0⟩ := hE
  have z9 : 0 < w.heap.size := by omega
  have HR : Hid (CP.parse (CP.bytes s) = none) := CP.parse_len _ (by rw [CP.bytes_len]; exact h7) (by rw [CP.bytes_len]; exact h9)
  have d7 : ((s.size : Int) == 7) = false := by simp; omega
  have d9 : ((s.size : Int) == 9) = false := by simp; omega
  go_enter Tryz.func93, Tryz.ntmps93
  go_wp2
  go_region
  all_goals go_wp2
  all_goals exact bodyPost_ret (v := .tuple #[.agg #[.int .u8 0, .int .u8 0, .int .u8 0, .int .u8 0], .iface 167 (.pointer (some ea))]) (by simp [results, Tryz.results93, go_sem]) rfl ⟨.inr ⟨HR.out, rfl⟩, ((Below.refl _ _).alloc (Nat.le_refl _) _).drew⟩

set_option maxRecDepth 20000 in
set_option maxHeartbeats 1000000 in
theorem parse_sign (s : ByteArray) (ea : Addr) (w : World) (hE : ErrT w ea) (h79 : s.size = 7 ∨ s.size = 9) (h0 : (CP.bytes s).head? ≠ some 35) : Calls Tryz.prog 93 #[.string s] w (ParsePost w ea (CP.parse (CP.bytes s))) := by
  obtain ⟨e0, z0⟩ := hE
  have z9 : 0 < w.heap.size := by omega
  have HR : Hid (CP.parse (CP.bytes s) = none) := by
    show _ = _
    unfold CP.parse
    rw [if_neg (fun h => h0 h.2)]
  have hz : 0 < s.size := by omega
  have hb := CP.bytes_at s 0 hz
  obtain ⟨c, hc⟩ : ∃ c, (CP.bytes s)[0]'(by rw [CP.bytes_len]; exact hz) = c := ⟨_, rfl⟩
  rw [hc] at hb
  have hc35 : c ≠ 35 := by
    intro h
    apply h0
    rw [List.head?_eq_getElem?, List.getElem?_eq_getElem (by rw [CP.bytes_len]; exact hz), hc, h]
  have d35 : ((c : Int) == 35) = false := by simp; omega
  clear h0 hc
  have hbs : ∀ h, (s[0]'h).toNat = c := fun _ => hb
  clear hb
  rcases h79 with h7 | h9
  · go_enter Tryz.func93, Tryz.ntmps93
    go_wp2
    go_region
    all_goals go_wp2
    all_goals exact bodyPost_ret (v := .tuple #[.agg #[.int .u8 0, .int .u8 0, .int .u8 0, .int .u8 0], .iface 167 (.pointer (some ea))]) (by simp [results, Tryz.results93, go_sem]) rfl ⟨.inr ⟨HR.out, rfl⟩, ((Below.refl _ _).alloc (Nat.le_refl _) _).drew⟩
  · go_enter Tryz.func93, Tryz.ntmps93
    go_wp2
    go_region
    all_goals go_wp2
    all_goals exact bodyPost_ret (v := .tuple #[.agg #[.int .u8 0, .int .u8 0, .int .u8 0, .int .u8 0], .iface 167 (.pointer (some ea))]) (by simp [results, Tryz.results93, go_sem]) rfl ⟨.inr ⟨HR.out, rfl⟩, ((Below.refl _ _).alloc (Nat.le_refl _) _).drew⟩

end CW
end Go.Proofs.YtenmkopiddmieabGreatDoor

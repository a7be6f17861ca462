/-
  What the roads of the statements of package wire share: lists that came in, lists that grow, and the calls in the form in which the roads take them.
-/
import Derived.Laws.AppendOwnNone
import Derived.Test.YtgiicchblbhenaaDoorWireLaid
namespace Go.Proofs.YtgiicchblbhenaaDoor
open Go.RowKit

/-- A slice of integers that came in: it is nil; or it leads to a row of 'cap' cells, the numbers 'zs', each fitting its kind. -/
def IsRow (k : IntKind) (w : World) (a : Option Addr) (len cap : Nat) (zs : List Int) : Prop :=
  (a = none ∧ len = 0 ∧ cap = 0 ∧ zs = []) ∨
  ∃ x, a = some x ∧ len ≤ cap ∧ cap ≤ maxLen ∧ zs.length = cap ∧ (∀ i, i < zs.length → w.cell? (x.add i) = some (.int k (zs.getD i 0))) ∧ ∀ n ∈ zs, (Lit.int k n).wf = true

theorem cells_of_isrow {w : World} {a : Option Addr} {len cap : Nat} {zs : List Int} (h : IsRow .u8 w a len cap zs) :
    ∃ bs : List Nat, bs.length = len ∧ Cells w a bs ∧ (∀ c ∈ bs, c < 256) ∧ (a = none → len = 0 ∧ cap = 0) ∧ len ≤ 9223372036854775807 := by
  rcases h with ⟨rfl, rfl, rfl, rfl⟩ | ⟨x, rfl, hl, hm, hz, hc, hw⟩
  · exact ⟨[], rfl, cells_nil _ _, by simp, fun _ => ⟨rfl, rfl⟩, by omega⟩
  · have hbd : ∀ n ∈ zs, 0 ≤ n ∧ n < 256 := fun n hn => by
      have := bounds_u8 (hw n hn)
      omega
    refine ⟨(zs.take len).map Int.toNat, by simp [hz, hl], ?_, ?_, by simp, by unfold maxLen at hm; omega⟩
    · intro j hj
      have hj' : j < len := by simpa [hz, hl] using hj
      have hjz : j < zs.length := by omega
      have hc' := hc j hjz
      obtain ⟨b, o, spot⟩ := x
      have hspot : spot = none := by
        have h0 := World.cell?_spot (hc 0 (by omega))
        simpa [Addr.add] using h0
      subst hspot
      rw [Addr.add_lit] at hc'
      refine ⟨b, o, rfl, World.block_lt_of_cell? _ _ hc', ?_⟩
      rw [hc']
      have e : zs.getD j 0 = zs[j] := by simp [List.getD, hjz]
      have hp := hbd zs[j] (List.getElem_mem _)
      rw [e]
      simp
      omega
    · intro c hc
      obtain ⟨n, hn, rfl⟩ := List.mem_map.1 hc
      have := hbd n (List.mem_of_mem_take hn)
      omega

theorem cells_own {w : World} {B g n cap : Nat} {xs : List Nat} (h : w.ownsRow B 5 1 (.slice (some ⟨g, 0, none⟩) n cap) n (vals xs)) : Cells w (some ⟨g, 0, none⟩) xs := by
  intro j hj
  have hn := h.1
  rw [vals_length] at hn
  refine ⟨g, 0, rfl, (h.lt g rfl).2, ?_⟩
  rw [h.cellAt (0 + j) (by omega), Nat.zero_add, vals_at xs j hj]

theorem own_row {w : World} {B g n : Nat} {xs : List Nat} (hB : B ≤ g) (hx : xs.length = n) (hn : n ≤ 1000000) (h : w.heap[g]? = some (.cells (vals xs).toArray 5 (0, 0))) : w.ownsRow B 5 1 (.slice (some ⟨g, 0, none⟩) n n) n (vals xs) := by
  refine ⟨by rw [vals_length]; omega, .inr ⟨g, n, _, rfl, hB, h, Nat.le_refl _, by unfold maxLen; omega, by rw [List.size_toArray, vals_length]; omega, ?_⟩⟩
  exact List.take_of_length_le (by simp [vals]; omega)

theorem wpList_append_bytes {P : Program} (w : World) {ops : Array Oper} {rest : List Oper} {o : Oper} {a : Act} {Q : Exit → Act → World → Prop} (hgd : o.guard = none) (s x : Operand) (t : TypeId)
    (ho : o.op = .call { callee := .builtin .append, args := #[s, x], argTypes := #[t, t] })
    (i : TypeInfo) (ht : P.underlying t = some (.slice 5)) (hi : P.info? 5 = some i) (hz : i.zero = some (.int .u8 0)) (hsize : i.size = 1) (hby : i.bytes = 1)
    (B : Nat) (w0 : World) (hb : Below B w0 w) (g n cap : Nat) (xs : List Nat) (hs : a.eval s = .slice (some ⟨g, 0, none⟩) n cap) (hown : w.ownsRow B 5 1 (.slice (some ⟨g, 0, none⟩) n cap) n (vals xs))
    (ao : Option Addr) (m c : Nat) (bs : List Nat) (hx : a.eval x = .slice ao m c) (hm : bs.length = m) (hcells : Cells w ao bs) (hnil : ao = none → m = 0 ∧ c = 0) (L : Nat) (hL : n + m = L) (hbound : L ≤ 1000000) (hB : B ≤ w.heap.size)
    (h : ∀ g' cap' w', B ≤ g' → L ≤ cap' → cap' ≤ 9223372036854775807 → Hid (w'.ownsRow B 5 1 (.slice (some ⟨g', 0, none⟩) L cap') L (vals (xs ++ bs))) → Below B w0 w' → B ≤ w'.heap.size → w.heap.size ≤ w'.heap.size → wpList P ops Q rest (a.put o.dst (.slice (some ⟨g', 0, none⟩) L cap')) w') : wpList P ops Q (o :: rest) a w := by
  subst hL
  have hcap : n ≤ cap ∧ cap ≤ maxLen := by
    rcases hown.2 with ⟨h', _⟩ | ⟨g', cap', cur, h', _, _, h1, h2, _⟩
    · simp at h'
    · simp only [Value.slice.injEq, Option.some.injEq, Addr.mk.injEq, and_true, true_and] at h'
      obtain ⟨rfl, rfl⟩ := h'
      exact ⟨h1, h2⟩
  cases ao with
  | none =>
    obtain ⟨rfl, rfl⟩ := hnil rfl
    obtain rfl : bs = [] := List.eq_nil_of_length_eq_zero hm
    refine wpList_append_own_none hgd s x t ho B 5 i 1 ht hi _ n (vals xs) hs hown hx ?_
    exact h g cap w (hown.lt g rfl).1 (by omega) (by have := hcap.2; unfold maxLen at this; omega) (by show World.ownsRow _ _ _ _ _ _ _; simpa using hown) hb hB (Nat.le_refl _)
  | some ad =>
    have hnews : ∀ j u, (vals bs)[j]? = some u → w.cell? (ad.add j) = some u := by
      intro j u hu
      have hj : j < bs.length := by
        have := (List.getElem?_eq_some_iff.1 hu).1
        rwa [vals_length] at this
      obtain ⟨b, o, e, _, hc⟩ := hcells j hj
      simp only [Option.some.injEq] at e
      subst e
      rw [vals_at bs j hj] at hu
      rw [Addr.add_lit, hc]
      exact hu
    refine wpList_append_own w hgd s x t ho B 5 i (.int .u8 0) 1 1 ht hi hz hsize hby rfl (by decide) _ n (vals xs) hs hown ad m c (vals bs) hx (by rw [vals_length]; omega) hnews (vals_one _) (by unfold maxLen; omega) (by omega) hB ?_
    intro v' w' hown' hgrow hiff
    have hown0 := hown'
    rcases hown'.2 with ⟨rfl, _⟩ | ⟨g', cap', cur, rfl, hbg, _, hc1, hc2, _⟩
    · have := hiff.1 rfl
      simp at this
    · refine h g' cap' w' hbg hc1 (by unfold maxLen at hc2; omega) (by show World.ownsRow _ _ _ _ _ _ _; rw [vals_append]; exact hown0) (hb.grown hgrow hB ?_) (Nat.le_trans hB hgrow.size) hgrow.size
      intro k hk
      exact (hown.lt k hk).1

theorem get_at (ao : Option Addr) (cap : Nat) (bs : List Nat) (len p : Nat) (A : Nat → Addr) (w : World) (hlen : bs.length = len) (hb : Cells w ao bs) (h256 : ∀ c ∈ bs, c < 256) (hl : len ≤ 1000000) (hp : p ≤ 1000000) (hE : Errs w A) (R : Except Bool (Nat × Nat)) (hR : WP.dec 0 0 (bs.drop p) = R) :
    Calls Tryd.prog 8 #[.slice ao len cap, .int .i64 p] w (GetPost w p A R) := by
  subst hlen; subst hR; exact get_any ao cap bs p A w hb h256 hl hp hE

theorem get_num (ao : Option Addr) (cap : Nat) (bs : List Nat) (len p : Nat) (A : Nat → Addr) (w : World) (hlen : bs.length = len) (hb : Cells w ao bs) (h256 : ∀ c ∈ bs, c < 256) (hl : len ≤ 1000000) (hp : p ≤ 1000000) (hE : Errs w A) (x k q : Nat) (hR : WP.dec 0 0 (bs.drop p) = .ok (x, k)) (hq : p + k = q) :
    Calls Tryd.prog 8 #[.slice ao len cap, .int .i64 p] w fun e w' => e = .returned (.tuple #[.int .u64 (x : Int), .int .i64 (q : Int), .nilIface]) ∧ Below w.heap.size w w' := by
  subst hq
  exact get_at ao cap bs len p A w hlen hb h256 hl hp hE _ hR

theorem get_err (ao : Option Addr) (cap : Nat) (bs : List Nat) (len p : Nat) (A : Nat → Addr) (w : World) (hlen : bs.length = len) (hb : Cells w ao bs) (h256 : ∀ c ∈ bs, c < 256) (hl : len ≤ 1000000) (hp : p ≤ 1000000) (hE : Errs w A) (b : Bool) (hR : WP.dec 0 0 (bs.drop p) = .error b) (a : Addr) (ha : A (if b then 1 else 0) = a) :
    Calls Tryd.prog 8 #[.slice ao len cap, .int .i64 p] w fun e w' => ∃ g, e = .returned (.tuple #[.int .u64 0, .int .i64 0, .iface 43 (.pointer (some ⟨g, 0, none⟩))]) ∧ w.heap.size ≤ g ∧
      Hid (w'.heap[g]? = some (.cells #[.int .i64 (p : Int), .iface 56 (.pointer (some a))] 45 (0, 0))) ∧ Below w.heap.size w w' := by
  subst ha
  exact get_at ao cap bs len p A w hlen hb h256 hl hp hE _ hR

theorem cells_take {w : World} {ao : Option Addr} {bs : List Nat} (h : Cells w ao bs) (k : Nat) : Cells w ao (bs.take k) := by
  intro j hj
  have hj' : j < bs.length := by have := hj; simp at this; omega
  obtain ⟨b, o, e, hlt, hc⟩ := h j hj'
  exact ⟨b, o, e, hlt, by rw [hc]; simp⟩

theorem row_below {w w' : World} {g : Nat} {o : Obj} (h : Hid (w.heap[g]? = some o)) (hb : Below w.heap.size w w') : Hid (w'.heap[g]? = some o) := by
  show _ = _
  rw [hb.block g (Array.getElem?_eq_some_iff.1 h.out).1]
  exact h.out

theorem put_at (ao : Option Addr) (cap : Nat) (bs : List Nat) (len n E : Nat) (w : World) (hlen : bs.length = len) (hn : n < 18446744073709551616) (hb : Cells w ao bs) (hl : len ≤ 100000) (hE : len + WP.sz n = E) (B : Nat) (hB : B ≤ w.heap.size) :
    Calls Tryd.prog 7 #[.slice ao len cap, .int .u64 n] w fun e w' => ∃ g, e = .returned (.slice (some ⟨g, 0, none⟩) E E) ∧ w.heap.size ≤ g ∧ Hid (w'.heap[g]? = some (.cells (vals (bs ++ WP.enc n)).toArray 5 (0, 0))) ∧ Hid (w'.ownsRow B 5 1 (.slice (some ⟨g, 0, none⟩) E E) E (vals (bs ++ WP.enc n))) ∧ Below w.heap.size w w' := by
  subst hlen; subst hE
  refine (put_any ao cap bs n w hn hb (by omega)).mono ?_
  rintro e w' ⟨g, rfl, hg, hrow, hbel⟩
  have := WP.sz_le10 hn
  exact ⟨g, rfl, hg, hrow, own_row (by omega) (by rw [List.length_append]; rfl) (by omega) hrow, hbel⟩

theorem xor_m1 (a : Nat) (h : a < 9223372036854775808) : bits .xor .i64 (a : Int) (-1) = -(a : Int) - 1 := by
  have e1 : BitVec.ofInt 64 (-1) = BitVec.allOnes 64 := by decide
  have e2 : (BitVec.ofInt 64 (a : Int)).toNat = a := by rw [BitVec.ofInt_natCast, BitVec.toNat_ofNat]; exact Nat.mod_eq_of_lt (by omega)
  show IntKind.i64.wrap ((BitVec.ofInt 64 (a : Int) ^^^ BitVec.ofInt 64 (-1)).toNat : Int) = _
  rw [e1, BitVec.xor_allOnes, BitVec.toNat_not, e2, IntKind.wrap_i64]
  omega

theorem xor_m0 (a : Nat) (h : a < 9223372036854775808) : bits .xor .i64 (a : Int) 0 = (a : Int) := by
  have e1 : BitVec.ofInt 64 0 = 0#64 := by decide
  have e2 : (BitVec.ofInt 64 (a : Int)).toNat = a := by rw [BitVec.ofInt_natCast, BitVec.toNat_ofNat]; exact Nat.mod_eq_of_lt (by omega)
  show IntKind.i64.wrap ((BitVec.ofInt 64 (a : Int) ^^^ BitVec.ofInt 64 0).toNat : Int) = _
  rw [e1, BitVec.xor_zero, e2, IntKind.wrap_i64]
  omega

def zag (n : Nat) : Int := if n % 2 = 1 then -((n / 2 : Nat) : Int) - 1 else ((n / 2 : Nat) : Int)

theorem zag_bounds (n : Nat) (h : n < 18446744073709551616) : -9223372036854775808 ≤ zag n ∧ zag n ≤ 9223372036854775807 := by
  unfold zag; split <;> omega
theorem zig_zag (n : Nat) : zig (zag n) = (n : Int) := by
  unfold zig zag; split <;> split <;> omega
theorem zag_zig (z : Int) (Z : Nat) (h : zig z = (Z : Int)) : zag Z = z := by
  unfold zig at h; unfold zag; split at h <;> split <;> omega

theorem and_one (n : Nat) (h : n < 18446744073709551616) : bits .and .u64 (n : Int) 1 = ((n % 2 : Nat) : Int) := by
  have := bits_and_u64_nat n 1 h (by decide)
  rw [Nat.and_one_is_mod] at this
  exact this

theorem zag_any (n : Nat) (w : World) (h : n < 18446744073709551616) :
    Calls Tryd.prog 12 #[.int .u64 n] w fun e w' => e = .returned (.int .i64 (zag n)) ∧ ∃ m, w' = w.drewN m := by
  have hand := and_one n h
  by_cases c : n % 2 = 1
  · rw [c] at hand
    have hx := xor_m1 (n / 2) (by omega)
    have HZ : Hid (zag n = -((n / 2 : Nat) : Int) - 1) := if_pos c
    obtain ⟨m, hm⟩ : ∃ m, n / 2 = m := ⟨_, rfl⟩
    have hm' : (n : Int) / 2 = (m : Int) := by omega
    rw [hm] at hx HZ
    go_enter Tryd.func12, Tryd.ntmps12
    go_wp2
    go_ret
    exact ⟨ret_int (by rw [HZ.out]), 0, rfl⟩
  · have c0 : n % 2 = 0 := by omega
    rw [c0] at hand
    have hx := xor_m0 (n / 2) (by omega)
    have HZ : Hid (zag n = ((n / 2 : Nat) : Int)) := if_neg c
    obtain ⟨m, hm⟩ : ∃ m, n / 2 = m := ⟨_, rfl⟩
    have hm' : (n : Int) / 2 = (m : Int) := by omega
    rw [hm] at hx HZ
    go_enter Tryd.func12, Tryd.ntmps12
    go_wp2
    go_ret
    exact ⟨ret_int (by rw [HZ.out]), 0, rfl⟩

end Go.Proofs.YtgiicchblbhenaaDoor

/-
  '[]byte(s)' and a byte of it turned, then 'string(b)': what the statement ColorBack does with a text. And what color's texts tell, one sign turned, one less, one more.
-/
import Derived.Deep.Cut
import Derived.Test.YtlgcbjipfolmbaaDoorColorParse3
namespace Go.Proofs.YtlgcbjipfolmbaaDoor
open Go.RowKit

theorem wpList_bytes (w : World) {ops : Array Oper} {rest : List Oper} {o : Oper} {a : Act} {Q : Exit → Act → World → Prop}
    (hg : o.guard = none) (x : Operand) (hop : o.op = Op.convert 9 37 x) (S : ByteArray) (hx : a.eval x = .string S)
    (hK : ∀ w' cap, Below w.heap.size w w' → Hid (∀ j (h : j < S.size), w'.cell? ⟨w.heap.size, j, none⟩ = some (.int .u8 ((S[j]'h).toNat : Int))) → Hid (∀ j, j < S.size → w'.frozen? ⟨w.heap.size, j, none⟩ = false) → w.heap.size < w'.heap.size → wpList Tryd.prog ops Q rest (a.put o.dst (.slice (some ⟨w.heap.size, 0, none⟩) S.size cap)) w') :
    wpList Tryd.prog ops Q (o :: rest) a w := by
  refine wpList_plain hg fun K hK' => ?_
  have hrun := run_bytes_of_string (P := Tryd.prog) w 9 37 5 S Tryd.underlying9 Tryd.underlying37 Tryd.underlying5
  unfold Oper.wp
  simp [execOp, hop, hx, hrun, Result.andThen]
  refine hK' _ _ (hK _ _ ((Below.refl w.heap.size w).drew.alloc (Nat.le_refl _) _) ?_ ?_ ?_)
  · intro j hj
    have := World.cell?_alloc_mark w.drew (bytesRow S (grownCap w S.size 0 5)) 5 ((bytesRow S (grownCap w S.size 0 5)).size, (bytesRow S (grownCap w S.size 0 5)).size + 1) j
    refine this.trans ?_
    rw [bytesRow_at S _ j hj]
    rfl
  · intro j hj
    have := World.frozen?_alloc_mark w.drew (bytesRow S (grownCap w S.size 0 5)) 5 (bytesRow S (grownCap w S.size 0 5)).size ((bytesRow S (grownCap w S.size 0 5)).size + 1) j
    refine this.trans ?_
    have hs : S.size ≤ (bytesRow S (grownCap w S.size 0 5)).size := by
      unfold bytesRow
      rw [Array.size_append, Array.size_map]
      exact Nat.le_add_right _ _
    simp; omega
  · simp

theorem Four.far {w : World} {b : Nat} {v0 v1 v2 v3 v : Value} {p : Addr} (h : Four w b v0 v1 v2 v3) (hp : p.block ≠ b) : Four (w.setCell p v) b v0 v1 v2 v3 := by
  obtain ⟨hl, h0, h1, h2, h3⟩ := h
  have ne : ∀ o, p ≠ (⟨b, o, none⟩ : Addr) := fun o e => hp (by rw [e])
  refine ⟨by simpa using hl, ?_, ?_, ?_, ?_⟩
  · rw [World.cell?_setCell_other (h := ne 0)]; exact h0
  · rw [World.cell?_setCell_other (h := ne 1)]; exact h1
  · rw [World.cell?_setCell_other (h := ne 2)]; exact h2
  · rw [World.cell?_setCell_other (h := ne 3)]; exact h3

/-- 'string(b)' behind one store. -/
theorem conv_set {w : World} {g cap K c : Nat} {T : List Nat} (hT : ∀ x ∈ T, x < 256) (hc : c < 256) (h : ∀ j (h : j < (CP.str T).size), w.cell? ⟨g, j, none⟩ = some (.int .u8 (((CP.str T)[j]'h).toNat : Int))) :
    (convert 37 9 (.slice (some ⟨g, 0, none⟩) T.length cap)).run Tryd.prog (w.setCell ⟨g, K, none⟩ (.int .u8 c)) = .ok (.string (CP.str (T.set K c))) (w.setCell ⟨g, K, none⟩ (.int .u8 c)) := by
  have hs := CP.str_size T
  have hcell : ∀ j (hj : j < T.length), w.cell? ⟨g, j, none⟩ = some (.int .u8 (T[j] : Int)) := fun j hj => by
    rw [h j (by omega), CP.bytes_at (CP.str T) j (by omega)]
    simp only [CP.bytes_str T hT]
  have := conv_str (w := w.setCell ⟨g, K, none⟩ (.int .u8 c)) (ad := ⟨g, 0, none⟩) (cap := cap) (l := T.set K c) (fun x hx => by
      rcases List.mem_or_eq_of_mem_set hx with hx | rfl
      · exact hT x hx
      · exact hc) (fun j hj => by
      have hj' : j < T.length := by simpa using hj
      rw [Addr.add_lit, Nat.zero_add]
      by_cases hjk : K = j
      · subst hjk
        rw [World.cell?_setCell_same _ _ _ (hcell K hj')]
        simp
      · rw [World.cell?_setCell_other (h := by simp), hcell j hj', List.getElem_set_ne (by omega)])
  rw [List.length_set] at this
  exact this

/-! What the texts tell. -/
theorem tell_short (l : List Nat) (n : Nat) (hl : l.length = n) (h256 : ∀ c ∈ l, c < 256) (h : n = 7 ∨ n = 9) : CP.parse (CP.bytes ((CP.str l).extract 0 (n - 1))) = none := by
  refine CP.parse_len _ ?_ ?_ <;> rw [CP.bytes_take, CP.bytes_str l h256, List.length_take] <;> omega

theorem tell_more (F : ByteArray) (h : F.size = 9) : CP.parse (CP.bytes (F ++ ⟨#[48]⟩)) = none := by
  have e : (CP.bytes (⟨#[48]⟩ : ByteArray)).length = 1 := by decide
  refine CP.parse_len _ ?_ ?_ <;> rw [CP.bytes_append, List.length_append, CP.bytes_len, e] <;> omega

theorem tell_full (r g b : Nat) (hr : r < 256) (hg : g < 256) (hb : b < 256) : CP.parse (CP.bytes (CP.str (CP.text r g b 255) ++ ⟨#[102, 102]⟩)) = some [r, g, b, 255] := by
  have e : CP.bytes (⟨#[102, 102]⟩ : ByteArray) = [102, 102] := by decide
  rw [CP.bytes_append, e, CP.bytes_str _ (CP.text_lt r g b 255 hr hg hb (by omega))]
  exact CP.parse_full r g b hr hg hb

end Go.Proofs.YtlgcbjipfolmbaaDoor

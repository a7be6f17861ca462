/-
  A writer writes a paint: walked over the program.
-/
import Derived.Test.YtofmbedjbnbjlaaDoorEncPt
namespace Go.Proofs.YtofmbedjbnbjlaaDoor
open Go.RowKit

/-- A writer, and a box of the call's own that stays. -/
structure Bx (w : World) (q : Nat) (b : Nat) (t : TypeId) (a : Array Value) (cs : List Nat) (W : World) : Prop where
  wr : Wr W q cs
  wk : Wk q w W
  box : Blk W b t a

theorem Bx.new {w : World} {q : Nat} {cs : List Nat} (h : Wr w q cs) (t : TypeId) (a : Array Value) : Bx w q w.heap.size t a cs (w.alloc (.cells a t)) := ⟨h.alloc _, (Wk.refl q w).alloc _, blk_new w t a⟩
theorem Bx.step {w W w2 : World} {q b : Nat} {t : TypeId} {a : Array Value} {cs cs' : List Nat} (h : Bx w q b t a cs W) (ht : t ≠ 5) (hb : b ≠ q) (h2 : Wr w2 q cs' ∧ Wk q W w2) : Bx w q b t a cs' w2 := ⟨h2.1, h.wk.trans h2.2, h.box.wk h2.2 hb ht⟩

def NumB (n : Int) : Prop := 0 ≤ n ∧ n ≤ 9223372036854775807
structure PaintB (p : IC.Paint) : Prop where
  na : NumB p.a
  nb : NumB p.b
  pp : PtB p.p
  pq : PtB p.q
  px : p.k ≠ 0 → p.k ≠ 1 → NumB p.q.x

set_option maxRecDepth 20000 in
set_option maxHeartbeats 1000000 in
theorem wpaint_any (q : Nat) (bs : List Nat) (p : IC.Paint) (w : World) (h : Wr w q bs) (hp : PaintB p) (hl : (bs ++ EP.paint p).length ≤ 100000000000000) :
    Calls Tryd.prog 74 #[.pointer (some ⟨q, 0, none⟩), .agg p.cells.toArray] w fun e w' => e = .returned (.tuple #[]) ∧ Wr w' q (bs ++ EP.paint p) ∧ Wk q w w' := by
  obtain ⟨k, a, b, ⟨px, py⟩, ⟨qx, qy⟩⟩ := p
  obtain ⟨⟨a0, a1⟩, ⟨b0, b1⟩, hpp, hpq, hx⟩ := hp
  simp only at a0 a1 b0 b1 hpp hpq hx
  have hq := h.lt
  have H0 : Hid (Bx w q w.heap.size 42 #[.int .i64 k, .int .i64 a, .int .i64 b, .int .i64 px, .int .i64 py, .int .i64 qx, .int .i64 qy] bs (w.alloc (.cells #[.int .i64 k, .int .i64 a, .int .i64 b, .int .i64 px, .int .i64 py, .int .i64 qx, .int .i64 qy] 42))) := Bx.new h _ _
  have HQ : Hid (w.heap.size ≠ q) := by show _ ≠ _; omega
  obtain ⟨A, rfl⟩ : ∃ A : Nat, a = (A : Int) := ⟨a.toNat, by omega⟩
  obtain ⟨B, rfl⟩ : ∃ B : Nat, b = (B : Int) := ⟨b.toNat, by omega⟩
  have ka : Hid (∀ W, Wr W q bs → Calls Tryd.prog 54 #[.pointer (some ⟨q, 0, none⟩), .int .i64 A] W fun e w' => e = .returned (.tuple #[]) ∧ Wr w' q (bs ++ EP.num A) ∧ Wk q W w') := fun W hW => wcount_any q bs A W hW (by omega) (len_l hl)
  unfold EP.paint at hl ⊢
  simp only at hl ⊢
  by_cases hk0 : k = 0
  · have hk : (k == 0) = true := by simp [hk0]
    rw [hk] at hl ⊢
    simp only [if_pos, List.append_nil] at hl ⊢
    clear h hl hk0 hx hpp hpq
    simp only [IC.Paint.cells]
    go_enter Tryd.func74, Tryd.ntmps74
    go_wp2_with (go_at_call 54; refine (ka.out _ H0.out.wr).mono ?_; rintro e w1 ⟨rfl, h1⟩
                 have H1 := hid' (H0.out.step (by decide) HQ.out h1)
                 obtain ⟨c0, -⟩ := seven_cells H1.out.box
                 clear h1)
    refine bodyPost_ret (v := .tuple #[]) (results_none (by rfl) _ _ _) rfl ?_
    exact ⟨rfl, H1.out.wr, H1.out.wk⟩
  · have hk : (k == 0) = false := by simp [hk0]
    rw [hk] at hl ⊢
    simp only [Bool.false_eq_true, if_false, ← List.append_assoc] at hl ⊢
    have l3 := len_l hl
    have l2 := len_l l3
    have l1 := len_l l2
    have kb : Hid (∀ W, Wr W q (bs ++ EP.num A) → Calls Tryd.prog 54 #[.pointer (some ⟨q, 0, none⟩), .int .i64 B] W fun e w' => e = .returned (.tuple #[]) ∧ Wr w' q (bs ++ EP.num A ++ EP.num B) ∧ Wk q W w') := fun W hW => wcount_any q _ B W hW (by omega) l1
    have kp : Hid (∀ W, Wr W q (bs ++ EP.num A ++ EP.num B) → Calls Tryd.prog 93 #[.pointer (some ⟨q, 0, none⟩), .agg #[.int .i64 px, .int .i64 py]] W fun e w' => e = .returned (.tuple #[]) ∧ Wr w' q (bs ++ EP.num A ++ EP.num B ++ EP.pt ⟨px, py⟩) ∧ Wk q W w') := fun W hW => wpt_any q _ ⟨px, py⟩ W hW (.inl hpp) l3
    by_cases hk1' : k = 1
    · have hk1 : (k == 1) = true := by simp [hk1']
      rw [hk1] at hl ⊢
      simp only [if_true] at hl ⊢
      have kq : Hid (∀ W, Wr W q (bs ++ EP.num A ++ EP.num B ++ EP.pt ⟨px, py⟩) → Calls Tryd.prog 93 #[.pointer (some ⟨q, 0, none⟩), .agg #[.int .i64 qx, .int .i64 qy]] W fun e w' => e = .returned (.tuple #[]) ∧ Wr w' q (bs ++ EP.num A ++ EP.num B ++ EP.pt ⟨px, py⟩ ++ EP.pt ⟨qx, qy⟩) ∧ Wk q W w') := fun W hW => wpt_any q _ ⟨qx, qy⟩ W hW (.inl hpq) hl
      clear h hl l1 l2 l3 hk0 hk1' hx hpp hpq
      simp only [IC.Paint.cells]
      go_enter Tryd.func74, Tryd.ntmps74
      go_wp2_with (first
        | (go_at_call 93; (with_reducible refine (kq.out _ H3.out.wr).mono ?_); rintro e w4 ⟨rfl, h4⟩
           have H4 := hid' (H3.out.step (by decide) HQ.out h4)
           clear h4)
        | (go_at_call 93; (with_reducible refine (kp.out _ H2.out.wr).mono ?_); rintro e w3 ⟨rfl, h3⟩
           have H3 := hid' (H2.out.step (by decide) HQ.out h3)
           obtain ⟨e0, e1, e2, e3, e4, e5, e6⟩ := seven_cells H3.out.box
           clear h3)
        | (go_at_call 54; (with_reducible refine (kb.out _ H1.out.wr).mono ?_); rintro e w2 ⟨rfl, h2⟩
           have H2 := hid' (H1.out.step (by decide) HQ.out h2)
           obtain ⟨d0, d1, d2, d3, d4, d5, d6⟩ := seven_cells H2.out.box
           clear h2)
        | (go_at_call 54; (with_reducible refine (ka.out _ H0.out.wr).mono ?_); rintro e w1 ⟨rfl, h1⟩
           have H1 := hid' (H0.out.step (by decide) HQ.out h1)
           obtain ⟨c0, c1, c2, c3, c4, c5, c6⟩ := seven_cells H1.out.box
           clear h1))
      go_end0
      exact ⟨rfl, H4.out.wr, H4.out.wk⟩
    · have hk1 : (k == 1) = false := by simp [hk1']
      rw [hk1] at hl ⊢
      simp only [Bool.false_eq_true, if_false] at hl ⊢
      obtain ⟨x0, x1⟩ := hx hk0 hk1'
      obtain ⟨X, rfl⟩ : ∃ X : Nat, qx = (X : Int) := ⟨qx.toNat, by omega⟩
      have hX : X ≤ 9223372036854775807 := by omega
      have kq : Hid (∀ W, Wr W q (bs ++ EP.num A ++ EP.num B ++ EP.pt ⟨px, py⟩) → Calls Tryd.prog 73 #[.pointer (some ⟨q, 0, none⟩), .int .u64 X] W fun e w' => e = .returned (.tuple #[]) ∧ Wr w' q (bs ++ EP.num A ++ EP.num B ++ EP.pt ⟨px, py⟩ ++ EP.num X) ∧ Wk q W w') := fun W hW => wnum_any q _ X W hW (by omega) (len_l hl)
      clear h hl l1 l2 l3 hk0 hk1' hx hpp hpq
      simp only [IC.Paint.cells]
      go_enter Tryd.func74, Tryd.ntmps74
      go_wp2_with (first
        | (go_at_call 73; (with_reducible refine (kq.out _ H3.out.wr).mono ?_); rintro e w4 ⟨rfl, h4⟩
           have H4 := hid' (H3.out.step (by decide) HQ.out h4)
           clear h4)
        | (go_at_call 93; (with_reducible refine (kp.out _ H2.out.wr).mono ?_); rintro e w3 ⟨rfl, h3⟩
           have H3 := hid' (H2.out.step (by decide) HQ.out h3)
           obtain ⟨e0, e1, e2, e3, e4, e5, e6⟩ := seven_cells H3.out.box
           clear h3)
        | (go_at_call 54; (with_reducible refine (kb.out _ H1.out.wr).mono ?_); rintro e w2 ⟨rfl, h2⟩
           have H2 := hid' (H1.out.step (by decide) HQ.out h2)
           obtain ⟨d0, d1, d2, d3, d4, d5, d6⟩ := seven_cells H2.out.box
           clear h2)
        | (go_at_call 54; (with_reducible refine (ka.out _ H0.out.wr).mono ?_); rintro e w1 ⟨rfl, h1⟩
           have H1 := hid' (H0.out.step (by decide) HQ.out h1)
           obtain ⟨c0, c1, c2, c3, c4, c5, c6⟩ := seven_cells H1.out.box
           clear h1))
      go_end0
      exact ⟨rfl, H4.out.wr, H4.out.wk⟩

end Go.Proofs.YtofmbedjbnbjlaaDoor

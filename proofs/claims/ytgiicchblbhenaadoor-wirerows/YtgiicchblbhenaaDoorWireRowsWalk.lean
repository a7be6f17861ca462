/-
  The road of WireRows.
-/
import Derived.Test.YtgiicchblbhenaaDoorWireLaw
namespace Go.Proofs.YtgiicchblbhenaaDoor
open Go.RowKit

/-- The bytes of the first k numbers, one behind the other. -/
def encs (ns : List Nat) (k : Nat) : List Nat := ((ns.take k).map WP.enc).flatten

theorem encs_zero (ns : List Nat) : encs ns 0 = [] := rfl
theorem encs_succ (ns : List Nat) (k : Nat) (h : k < ns.length) : encs ns (k + 1) = encs ns k ++ WP.enc ns[k] := by
  unfold encs
  rw [List.take_succ_eq_append_getElem h, List.map_append, List.flatten_append]
  simp only [List.map_cons, List.map_nil, List.flatten_cons, List.flatten_nil, List.append_nil]
theorem encs_split (ns : List Nat) (k : Nat) (h : k < ns.length) : ∃ rest, encs ns ns.length = encs ns k ++ (WP.enc ns[k] ++ rest) := by
  refine ⟨((ns.drop (k + 1)).map WP.enc).flatten, ?_⟩
  rw [← List.append_assoc, ← encs_succ ns k h]
  unfold encs
  rw [List.take_length, ← List.flatten_append, ← List.map_append, List.take_append_drop]
theorem encs_len (ns : List Nat) (h : ∀ n ∈ ns, n < 18446744073709551616) (k : Nat) (hk : k ≤ ns.length) : (encs ns k).length ≤ 10 * k := by
  induction k with
  | zero => simp [encs_zero]
  | succ k ih =>
    rw [encs_succ ns k (by omega), List.length_append]
    have := ih (by omega)
    have s : (WP.enc ns[k]).length ≤ 10 := WP.sz_le10 (h _ (List.getElem_mem _))
    omega
theorem encs_256 (ns : List Nat) (k : Nat) : ∀ c ∈ encs ns k, c < 256 := by
  intro c hc
  unfold encs at hc
  obtain ⟨l, hl, hc⟩ := List.mem_flatten.1 hc
  obtain ⟨n, _, rfl⟩ := List.mem_map.1 hl
  exact WP.enc_lt256 n c hc

def Cells64 (w : World) (ao : Option Addr) (vs : List Nat) : Prop := ∀ j (h : j < vs.length), ∃ b o, ao = some ⟨b, o, none⟩ ∧ b < w.heap.size ∧ w.cell? ⟨b, o + j, none⟩ = some (.int .u64 (vs[j] : Int))

theorem Cells64.below {w w' : World} {ao : Option Addr} {vs : List Nat} (h : Cells64 w ao vs) (hb : Below w.heap.size w w') : Cells64 w' ao vs := by
  intro j hj
  obtain ⟨b, o, e, hlt, hc⟩ := h j hj
  exact ⟨b, o, e, Nat.lt_of_lt_of_le hlt hb.size, (hb.cell (p := ⟨b, o + j, none⟩) hlt).trans hc⟩

theorem cells64_of_isrow {w : World} {a : Option Addr} {len cap : Nat} {zs : List Int} (h : IsRow .u64 w a len cap zs) :
    ∃ vs : List Nat, vs.length = len ∧ Cells64 w a vs ∧ (∀ c ∈ vs, c < 18446744073709551616) ∧ len ≤ 9223372036854775807 := by
  rcases h with ⟨rfl, rfl, rfl, rfl⟩ | ⟨x, rfl, hl, hm, hz, hc, hw⟩
  · exact ⟨[], rfl, fun j h => absurd h (by simp), by simp, by omega⟩
  · have hbd : ∀ n ∈ zs, 0 ≤ n ∧ n < 18446744073709551616 := fun n hn => by
      have := bounds_u64 (hw n hn)
      omega
    refine ⟨(zs.take len).map Int.toNat, by simp [hz, hl], ?_, ?_, by unfold maxLen at hm; omega⟩
    · intro j hj
      have hj' : j < len := by simpa [hz, hl] using hj
      have hjz : j < zs.length := by omega
      have hc' := hc j hjz
      obtain ⟨b, o, spot⟩ := x
      have hspot : spot = none := by
        have h0 := World.cell?_spot (hc 0 (by omega))
        simpa [Addr.add] using h0
      subst hspot
      rw [Addr.add_lit] at hc'
      refine ⟨b, o, rfl, World.block_lt_of_cell? _ _ hc', ?_⟩
      rw [hc']
      have e : zs.getD j 0 = zs[j] := by simp [List.getD, hjz]
      have hp := hbd zs[j] (List.getElem_mem _)
      rw [e]
      simp
      omega
    · intro c hc
      obtain ⟨n, hn, rfl⟩ := List.mem_map.1 hc
      have := hbd n (List.mem_of_mem_take hn)
      omega

theorem rows_long (a0 : Option Addr) (len0 cap0 : Nat) (cut : Int) (w : World) (h : 30 < len0) (h0 : len0 ≤ 9223372036854775807) :
    Calls Tryd.prog 5 #[.slice a0 len0 cap0, .int .i64 cut] w fun e w' => e = .returned (.bool true) ∧ Below w.heap.size w w' := by
  go_enter Tryd.func5, Tryd.ntmps5
  go_wp2_with (go_at_call 6; refine (first_any _).mono ?_; rintro e w1 ⟨rfl, hb⟩)
  go_ret
  exact ⟨rfl, hb⟩

theorem at_facts (ns vs : List Nat) (E : Nat → Nat) (u k : Nat) {len0 : Nat} (HV : vs.length = len0) (HN : ns.length = len0) (HE : ∀ k, (encs ns k).length = E k) (h64 : ∀ n ∈ ns, n < 18446744073709551616) (Hns : vs.map (fun v => v / 2 ^ u) = ns) (hlt : k < len0) (v : Nat) (hv : vs[k]'(by omega) = v) :
    ∃ m S E1 : Nat, encs ns (k + 1) = encs ns k ++ WP.enc m ∧ WP.sz m = S ∧ E (k + 1) = E1 ∧ m < 18446744073709551616 ∧ (v : Int) / 2 ^ u = (m : Int) ∧ E k + S = E1 := by
  have hk : k < ns.length := by omega
  have hm : ns[k] = v / 2 ^ u := by subst Hns; subst hv; simp
  have hs := encs_succ ns k hk
  refine ⟨ns[k], WP.sz ns[k], E (k + 1), hs, rfl, rfl, h64 _ (List.getElem_mem _), ?_, ?_⟩
  · rw [hm]; simp
  · rw [← HE, ← HE, hs, List.length_append]; rfl

theorem at_dec (ns : List Nat) (E : Nat → Nat) (j k : Nat) (HN : ns.length = k) (HE : ∀ k, (encs ns k).length = E k) (hlt : j < k) (m S : Nat) (hm : encs ns (j + 1) = encs ns j ++ WP.enc m) (hS : WP.sz m = S) (m64 : m < 18446744073709551616) :
    WP.dec 0 0 ((encs ns k).drop (E j)) = .ok (m, S) := by
  have hj : j < ns.length := by omega
  obtain ⟨rest, hr⟩ := encs_split ns j hj
  have e : WP.enc ns[j] = WP.enc m := by
    have h := encs_succ ns j hj
    rw [hm] at h
    exact (List.append_cancel_left h).symm
  subst HN
  rw [hr, ← HE, List.drop_left, e, WP.dec_enc m 0 0 rest (by have := WP.sz_le10 m64; omega) (by simpa using m64) (by simp), hS]
  simp

set_option maxRecDepth 20000 in
set_option maxHeartbeats 2000000 in
theorem rows_at (a0 : Option Addr) (len0 cap0 : Nat) (cut : Int) (w : World) (vs : List Nat) (A : Nat → Addr) (l0 : vs.length = len0) (b0 : len0 ≤ 30) (hc0 : Cells64 w a0 vs) (s0 : ∀ c ∈ vs, c < 18446744073709551616) (hE : Errs w A)
    (t : Int) (ht : cut.tmod 64 = t) (t0 : -63 ≤ t) (t1 : t ≤ 63) (u : Nat) (hu : (t + 64) % 64 = (u : Int)) (_hu8 : u ≤ 63) :
    Calls Tryd.prog 5 #[.slice a0 len0 cap0, .int .i64 cut] w fun e w' => e = .returned (.bool true) ∧ Below w.heap.size w w' := by
  obtain ⟨ns, hns⟩ : ∃ ns, vs.map (fun v => v / 2 ^ u) = ns := ⟨_, rfl⟩
  have nl : ns.length = len0 := by rw [← hns]; simpa using l0
  have n64 : ∀ n ∈ ns, n < 18446744073709551616 := by
    intro n hn
    rw [← hns] at hn
    obtain ⟨v, hv, rfl⟩ := List.mem_map.1 hn
    exact Nat.lt_of_le_of_lt (Nat.div_le_self _ _) (s0 v hv)
  have elen := encs_len ns n64
  obtain ⟨E, hEk⟩ : ∃ E : Nat → Nat, ∀ k, (encs ns k).length = E k := ⟨fun k => (encs ns k).length, fun _ => rfl⟩
  have HEk : Hid (∀ k, (encs ns k).length = E k) := hEk
  have HEl : Hid (∀ k, k ≤ len0 → E k ≤ 10 * k) := fun k hk => by rw [← hEk]; exact elen k (by omega)
  have HN : Hid (ns.length = len0) := nl
  have HV : Hid (vs.length = len0) := l0
  have HC : Hid (Cells64 w a0 vs) := hc0
  have HE : Hid (Errs w A) := hE
  have N64 : Hid (∀ n ∈ ns, n < 18446744073709551616) := n64
  have Hns : Hid (vs.map (fun v => v / 2 ^ u) = ns) := hns
  have hE0 : E 0 = 0 := by rw [← hEk]; rfl
  clear hns nl n64 elen hEk hc0 l0 s0 hE
  go_enter Tryd.func5, Tryd.ntmps5
  go_wp2_with (go_at_call 6; refine (first_any _).mono ?_; rintro e w1 ⟨rfl, hb1⟩)
  go_loopw [6, 7, 8] (fun b s i wr => ∃ (k cap : Nat) (ao : Option Addr), k ≤ len0 ∧ i = .int .i64 k ∧ b = .slice ao (E k) cap ∧ s = .int .i64 (E k) ∧ Hid (Cells wr ao (encs ns k)) ∧ Below w.heap.size w wr) (fun _ _ i _ => len0 - (intOf i).toNat)
  case atStart => exact ⟨0, 0, none, Nat.zero_le _, rfl, by rw [hE0], by rw [hE0]; rfl, cells_nil _ _, hb1⟩
  case round =>
    obtain ⟨k, cap, ao, hk, rfl, rfl, rfl, hcb, hbr⟩ := hrel
    have bE := HEl.out k hk
    by_cases hlt : k < len0
    · have hlv : k < vs.length := by rw [HV.out]; exact hlt
      obtain ⟨b0', o0, rfl, _, hcell⟩ := (HC.out.below hbr) k hlv
      obtain ⟨v, hv⟩ : ∃ v, vs[k] = v := ⟨_, rfl⟩
      rw [hv] at hcell
      obtain ⟨m, S, E1, hm, hS, hE1, m64, hq, hd⟩ := at_facts ns vs E u k HV.out HN.out HEk.out N64.out Hns.out hlt v hv
      have hS' : Hid (WP.sz m = S) := hS
      have hE1' : Hid (E (k + 1) = E1) := hE1
      have s10 := WP.sz_le10 m64
      rw [hS] at s10
      have kS : Hid (∀ w, Calls Tryd.prog 9 #[.int .u64 m] w fun e w' => e = .returned (.int .i64 S) ∧ ∃ m, w' = w.drewN m) := fun w => by have := size_any m w m64; rw [hS] at this; exact this
      have HM : Hid (encs ns (k + 1) = encs ns k ++ WP.enc m) := hm
      clear hm hS hE1 hv
      go_wp2_with (first
        | (go_at_call 7; refine (put_at ao cap (encs ns k) (E k) m E1 _ (HEk.out k) m64 hcb.out (by omega) (by rw [hS'.out]; omega) w.heap.size hbr.size).mono ?_; rintro e w3 ⟨g3, rfl, hg3, hrow3, hown3, hb3⟩; have hb3' : Below w.heap.size w w3 := hbr.trans (hb3.mono hbr.size))
        | (go_at_call 9; refine (kS.out _).mono ?_; rintro e w4 ⟨rfl, m4, rfl⟩))
      go_roundw
      case rel => exact ⟨k + 1, E1, some ⟨g3, 0, none⟩, by omega, by go_num, by rw [hE1'.out], by rw [hE1'.out]; go_num, by rw [HM.out]; exact (cells_own hown3.out).below (below_drewN (Below.refl _ _) _), below_drewN hb3' _⟩
      case measure => simp [intOf]; omega
    · have hkl : k = len0 := by omega
      subst hkl
      rename World => wa
      go_wp2_with fail
      go_loopw [10, 11] (fun at' i wr2 => ∃ j : Nat, j ≤ k ∧ at' = .int .i64 (E j) ∧ i = .int .i64 j ∧ Below wa.heap.size wa wr2) (fun _ i _ => k - (intOf i).toNat)
      case atStart => exact ⟨0, Nat.zero_le _, by rw [hE0]; rfl, rfl, Below.refl _ _⟩
      case round =>
        obtain ⟨j, hj, rfl, rfl, hbr2⟩ := hrel
        have hbw : Below w.heap.size w wr := hbr.trans (hbr2.mono hbr.size)
        by_cases hjl : j < k
        · have hlv : j < vs.length := by rw [HV.out]; exact hjl
          obtain ⟨b0', o0, rfl, _, hcell⟩ := (HC.out.below hbw) j hlv
          obtain ⟨v, hv⟩ : ∃ v, vs[j] = v := ⟨_, rfl⟩
          rw [hv] at hcell
          obtain ⟨m, S, E1, hm, hS, hE1, m64, hq, hd⟩ := at_facts ns vs E u j HV.out HN.out HEk.out N64.out Hns.out hjl v hv
          have bEj := HEl.out j (by omega)
          have hS' : Hid (WP.sz m = S) := hS
          have hE1' : Hid (E (j + 1) = E1) := hE1
          have s10 := WP.sz_le10 m64
          rw [hS] at s10
          have kS : Hid (∀ w, Calls Tryd.prog 9 #[.int .u64 m] w fun e w' => e = .returned (.int .i64 S) ∧ ∃ m, w' = w.drewN m) := fun w => by have := size_any m w m64; rw [hS] at this; exact this
          have HD : Hid (WP.dec 0 0 ((encs ns k).drop (E j)) = .ok (m, S)) := at_dec ns E j k HN.out HEk.out hjl m S hm hS m64
          have hES : (E1 : Int) - (E j : Int) = (S : Int) := by omega
          clear hm hS hE1 hv
          go_wp2_with (first
            | (go_at_call 8; refine (get_num ao cap (encs ns k) (E k) (E j) A _ (HEk.out k) (hcb.out.below hbr2) (encs_256 ns k) (by omega) (by omega) (HE.out.below hbw) m S E1 HD.out (by omega)).mono ?_; rintro e w5 ⟨rfl, hb5⟩; have hb5' : Below wa.heap.size wa w5 := hbr2.trans (hb5.mono hbr2.size); have hcell5 := (hb5.cell (p := ⟨b0', o0 + j, none⟩) (World.block_lt_of_cell? _ _ hcell)).trans hcell)
            | (go_at_call 9; refine (kS.out _).mono ?_; rintro e w6 ⟨rfl, m6, rfl⟩))
          go_roundw
          case rel => exact ⟨j + 1, by omega, by rw [hE1'.out], by go_num, below_drewN hb5' _⟩
          case measure => simp [intOf]; omega
        · have hjk : j = k := by omega
          subst hjk
          have HD : Hid (WP.dec 0 0 ((encs ns j).drop (E j)) = .error false) := by
            show _ = _
            rw [List.drop_eq_nil_of_le (by rw [HEk.out]; exact Nat.le_refl _)]
            rfl
          go_wp2_with (first
            | (go_at_call 8; refine (get_err ao cap (encs ns j) (E j) (E j) A _ (HEk.out j) (hcb.out.below hbr2) (encs_256 ns j) (by omega) (by omega) (HE.out.below hbw) false HD.out (A 0) rfl).mono ?_; rintro e w7 ⟨g7, rfl, hg7, hrow7, hb7⟩; have hb7' : Below w.heap.size w w7 := hbw.trans (hb7.mono hbw.size))
            | (go_at_call 11; refine (placed_any _ _ _ (by decide)).mono ?_; rintro e w8 ⟨rfl, hb8⟩; have hb8' : Below w.heap.size w w8 := hb7'.trans (hb8.mono hb7'.size))
            | (go_at_call 10; refine (same_any A _ (HE.out.below hb8') 6 (by omega) (A 0) rfl g7 (E j) 107 (by omega) (row_below hrow7 hb8).out).mono ?_; rintro e w9 ⟨rfl, hb9⟩))
          go_ret
          exact ⟨rfl, hb8'.trans (hb9.mono hb8'.size)⟩

end Go.Proofs.YtgiicchblbhenaaDoor

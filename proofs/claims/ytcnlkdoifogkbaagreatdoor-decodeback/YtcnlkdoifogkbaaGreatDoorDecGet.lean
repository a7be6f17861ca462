/-
  What mayStand, Get and Zag of package wire answer, walked over the program.
-/
import Derived.Test.YtcnlkdoifogkbaaGreatDoorDecMem
namespace Go.Proofs.YtcnlkdoifogkbaaGreatDoor
open Go.RowKit

theorem may_any (c k : Nat) (w : World) (hc : c < 256) (hk : k ≤ 9) :
    Calls Tryz.prog 107 #[.int .u8 c, .int .i64 (7 * (k : Int))] w fun e w' => e = .returned (.bool (WP.stands c k)) ∧ w' = w := by
  by_cases k9 : k = 9
  · subst k9
    by_cases c1 : c = 1
    · subst c1
      go_enter Tryz.func107, Tryz.ntmps107
      go_wp2
      go_ret
      exact ⟨rfl, rfl⟩
    · have e1 : ((c : Int) == 1) = false := by simp; omega
      have HR : Hid (WP.stands c 9 = false) := by show _ = _; unfold WP.stands; simp [c1]
      go_enter Tryz.func107, Tryz.ntmps107
      go_wp2
      go_ret
      exact ⟨by rw [HR.out]; first | rfl | simp [c1], rfl⟩
  · have e9 : (7 * (k : Int) == 63) = false := by simp; omega
    by_cases c0 : c = 0
    · subst c0
      by_cases k0 : k = 0
      · subst k0
        go_enter Tryz.func107, Tryz.ntmps107
        go_wp2
        go_ret
        exact ⟨rfl, rfl⟩
      · have e0 : (7 * (k : Int) == 0) = false := by simp; omega
        have HR : Hid (WP.stands 0 k = false) := by show _ = _; unfold WP.stands; simp [k9, k0]
        go_enter Tryz.func107, Tryz.ntmps107
        go_wp2
        go_ret
        exact ⟨by rw [HR.out]; first | rfl | simp [k0], rfl⟩
    · have e0 : ((c : Int) == 0) = false := by simp; omega
      have HR : Hid (WP.stands c k = true) := by show _ = _; unfold WP.stands; simp [k9, c0]
      go_enter Tryz.func107, Tryz.ntmps107
      go_wp2
      go_ret
      exact ⟨by rw [HR.out]; first | rfl | simp [c0], rfl⟩

/-- What Get answers, by what is read. -/
def GetPost (w : World) (p : Nat) (A : Nat → Addr) (r : Except Bool (Nat × Nat)) (e : Ending) (w' : World) : Prop :=
  match r with
  | .ok (x, k) => e = .returned (.tuple #[.int .u64 (x : Int), .int .i64 ((p + k : Nat) : Int), .nilIface]) ∧ Below w.heap.size w w'
  | .error b => ∃ g, e = .returned (.tuple #[.int .u64 0, .int .i64 0, .iface 79 (.pointer (some ⟨g, 0, none⟩))]) ∧ w.heap.size ≤ g ∧
      w'.heap[g]? = some (.cells #[.int .i64 (p : Int), .iface 173 (.pointer (some (A (perm (if b then 8 else 6)))))] 81 (0, 0)) ∧ Below w.heap.size w w'

theorem and_127 (c : Nat) (h : c < 256) : bits .and .u8 (c : Int) 127 = ((c % 128 : Nat) : Int) := by
  have : ∀ x : Fin 256, bits .and .u8 ((x.val : Nat) : Int) 127 = ((x.val % 128 : Nat) : Int) := by decide +kernel
  exact this ⟨c, h⟩

theorem get_sum (acc c k : Nat) (hk : k ≤ 9) (ha : acc < 128 ^ k) (ha2 : acc < 18446744073709551616) (hc : c < 256) (hs : WP.stands c k = true) :
    ∃ y : Nat, bits .or .u64 (acc : Int) (IntKind.u64.wrap (IntKind.u64.wrap (bits .and .u8 (c : Int) 127) * 2 ^ (7 * k))) = (y : Int) ∧ y = acc + (c % 128) * 128 ^ k ∧ y < 18446744073709551616 ∧ y < 128 ^ (k + 1) := by
  have e1 : (128 : Nat) ^ k = 2 ^ (7 * k) := by rw [Nat.pow_mul]
  have m1 : c % 128 * 128 ^ k ≤ 9223372036854775808 := by
    by_cases k9 : k = 9
    · subst k9
      unfold WP.stands at hs
      rw [if_pos rfl] at hs
      simp at hs
      subst hs
      decide
    · have : 128 ^ k ≤ 128 ^ 8 := Nat.pow_le_pow_right (by omega) (by omega)
      have e8 : (128 : Nat) ^ 8 = 72057594037927936 := by decide
      have : c % 128 * 128 ^ k ≤ 127 * 128 ^ 8 := Nat.mul_le_mul (by omega) this
      omega
  have m2 : acc < 9223372036854775808 := by
    have : 128 ^ k ≤ 128 ^ 9 := Nat.pow_le_pow_right (by omega) (by omega)
    rw [WP.pow9] at this
    omega
  refine ⟨acc + (c % 128) * 128 ^ k, ?_, rfl, by omega, ?_⟩
  · rw [and_127 c hc]
    have w1 : IntKind.u64.wrap ((c % 128 : Nat) : Int) = ((c % 128 : Nat) : Int) := by rw [IntKind.wrap_u64]; omega
    have w2 : (((c % 128 : Nat) : Int) * 2 ^ (7 * k)) = ((c % 128 * 128 ^ k : Nat) : Int) := by rw [e1]; simp
    have w3 : IntKind.u64.wrap ((c % 128 * 128 ^ k : Nat) : Int) = ((c % 128 * 128 ^ k : Nat) : Int) := by rw [IntKind.wrap_u64]; omega
    rw [w1, w2, w3, bits_or_u64_nat _ _ ha2 (by omega)]
    have o : 2 ^ (7 * k) * (c % 128) + acc = 2 ^ (7 * k) * (c % 128) ||| acc := Nat.two_pow_add_eq_or_of_lt (by rw [← e1]; exact ha) _
    rw [e1, Nat.or_comm, Nat.mul_comm, ← o, Nat.add_comm]
  · rw [Nat.pow_succ]
    have : c % 128 * 128 ^ k ≤ 127 * 128 ^ k := Nat.mul_le_mul_right _ (by omega)
    omega

theorem getpost_ok {w w' : World} {p x k : Nat} {i : Int} {A : Nat → Addr} {R : Except Bool (Nat × Nat)} (h : R = .ok (x, k)) (hi : i = ((p + k : Nat) : Int)) (hb : Below w.heap.size w w') :
    GetPost w p A R (.returned (.tuple #[.int .u64 (x : Int), .int .i64 i, .nilIface])) w' := by
  subst h; subst hi; exact ⟨rfl, hb⟩

theorem getpost_err {w : World} {p : Nat} {b : Bool} {A : Nat → Addr} {R : Except Bool (Nat × Nat)} (h : R = .error b) :
    GetPost w p A R (.returned (.tuple #[.int .u64 0, .int .i64 0, .iface 79 (.pointer (some ⟨w.heap.size, 0, none⟩))])) (w.alloc (.cells #[.int .i64 (p : Int), .iface 173 (.pointer (some (A (perm (if b then 8 else 6)))))] 81 (0, 0))).drew := by
  subst h
  exact ⟨w.heap.size, rfl, Nat.le_refl _, heap_alloc_new w _, ((Below.refl _ _).alloc (Nat.le_refl _) _).drew⟩

set_option maxRecDepth 20000 in
set_option maxHeartbeats 1000000 in
theorem get_any (ao : Option Addr) (cap : Nat) (bs : List Nat) (p : Nat) (A : Nat → Addr) (w : World) (hb : Cells w ao bs) (h256 : ∀ c ∈ bs, c < 256) (hl : bs.length ≤ 1000000) (hp : p ≤ 1000000) (e6 : w.cell? ⟨3, 0, none⟩ = some (errD A 6)) (e8 : w.cell? ⟨10, 0, none⟩ = some (errD A 8)) :
    Calls Tryz.prog 83 #[.slice ao bs.length cap, .int .i64 p] w (GetPost w p A (WP.dec 0 0 (bs.drop p))) := by
  unfold errD at e6 e8
  obtain ⟨len, hlen⟩ : ∃ len, bs.length = len := ⟨_, rfl⟩
  have HL : Hid (bs.length = len) := hlen
  rw [hlen] at hl ⊢
  clear hlen
  have HB : Hid (Cells w ao bs) := hb
  have H256 : Hid (∀ c ∈ bs, c < 256) := h256
  clear hb h256
  obtain ⟨R, hR⟩ : ∃ R, WP.dec 0 0 (bs.drop p) = R := ⟨_, rfl⟩
  have HR : Hid (WP.dec 0 0 (bs.drop p) = R) := hR
  rw [hR]
  clear hR
  go_enter Tryz.func83, Tryz.ntmps83
  go_wp2
  go_loop [7, 8, 9] (fun n s e => ∃ (k acc i : Nat), n = .int .u64 acc ∧ s = .int .i64 (7 * (k : Int)) ∧ e = .int .i64 i ∧ k ≤ 9 ∧ acc < 128 ^ k ∧ acc < 18446744073709551616 ∧ Hid (i = p + k) ∧ i ≤ 1000000 ∧ Hid (R = WP.dec acc k (bs.drop i))) (fun _ _ e => len - (intOf e).toNat)
  case atStart => exact ⟨0, 0, p, rfl, rfl, rfl, by omega, by simp, by omega, rfl, hp, HR.out.symm⟩
  case round =>
    obtain ⟨k, acc, i, rfl, rfl, rfl, hk, ha, ha2, hi, hi2, hdec⟩ := hrel
    by_cases hlt : i < len
    · have hlt' : i < bs.length := by rw [HL.out]; exact hlt
      have HD : Hid (bs.drop i = bs[i] :: bs.drop (i + 1)) := List.drop_eq_getElem_cons hlt'
      obtain ⟨b, o, rfl, _, hc⟩ := HB.out i hlt'
      obtain ⟨c, hcc⟩ : ∃ c, bs[i] = c := ⟨_, rfl⟩
      have c256 : c < 256 := by rw [← hcc]; exact H256.out _ (List.getElem_mem _)
      rw [hcc] at hc HD
      clear hcc
      have km : Hid (∀ w, Calls Tryz.prog 107 #[.int .u8 c, .int .i64 (7 * (k : Int))] w fun e w' => e = .returned (.bool (WP.stands c k)) ∧ w' = w) := fun w => may_any c k w c256 hk
      by_cases hs : WP.stands c k = true
      · rw [hs] at km
        obtain ⟨y, hsum, hy, hy2, hy3⟩ := get_sum acc c k hk ha ha2 c256 hs
        have HY : Hid (y = acc + (c % 128) * 128 ^ k) := hy
        have HS : Hid (WP.stands c k = true) := hs
        clear hy hs
        by_cases h128 : c < 128
        · go_wp2_with (go_at_call 107; refine (km.out _).mono ?_; rintro e w' ⟨rfl, rfl⟩)
          go_ret3
          refine getpost_ok (k := k + 1) ?_ ?_ (Below.refl _ _)
          · rw [hdec.out, HD.out, WP.dec_end HS.out h128, HY.out, Nat.mod_eq_of_lt h128]
          · have := hi.out; omega
        · go_wp2_with (go_at_call 107; refine (km.out _).mono ?_; rintro e w' ⟨rfl, rfl⟩)
          have k8 : k ≠ 9 := by
            intro k9
            have := HS.out
            unfold WP.stands at this
            rw [if_pos k9] at this
            simp at this
            omega
          go_round
          case rel => exact ⟨k + 1, y, i + 1, rfl, by go_num, by go_num, by omega, hy3, hy2, by show _ = _; rw [hi.out]; omega, by omega, by show _ = _; rw [hdec.out, HD.out, WP.dec_on HS.out h128, HY.out, show c % 128 = c - 128 by omega]⟩
          case measure => simp [intOf]; omega
      · have hs' : WP.stands c k = false := by simpa using hs
        have HS : Hid (WP.stands c k = false) := hs'
        rw [hs'] at km
        clear hs hs'
        go_wp2_with (go_at_call 107; refine (km.out _).mono ?_; rintro e w' ⟨rfl, rfl⟩)
        go_region
        go_wp2
        go_ret3
        have hR : R = .error true := by rw [hdec.out, HD.out, WP.dec_bad HS.out]
        exact getpost_err hR
    · go_wp2
      go_region
      go_wp2
      go_ret3
      have hR : R = .error false := by rw [hdec.out, List.drop_eq_nil_of_le (by rw [HL.out]; omega), WP.dec_nil]
      exact getpost_err hR

end Go.Proofs.YtcnlkdoifogkbaaGreatDoor

/-
  A number that is written is read as it was; noughts behind change nothing: walked over the program.
-/
import Derived.Test.YtepilofedebmeaaDoorNumFirst
import Derived.Test.YtepilofedebmeaaDoorNumForm
import Derived.Test.YtepilofedebmeaaDoorErrsSee
namespace Go.Proofs.YtepilofedebmeaaDoor
open Go.RowKit

set_option linter.unusedVariables false

def Zs (j : Nat) : ByteArray := ⟨(List.replicate j 48).toArray⟩
theorem zs_size (j : Nat) : (Zs j).size = j := by rw [Lib.size_eq]; simp [Zs]
theorem zs_more (B : ByteArray) (j : Nat) : B ++ Zs j ++ ⟨#[48]⟩ = B ++ Zs (j + 1) := by
  apply ByteArray.ext
  rw [← Array.toList_inj]
  simp only [Zs, ByteArray.data_append, List.replicate_succ', Array.toList_append, List.append_assoc]
theorem zs_none (B : ByteArray) : B ++ Zs 0 = B := by apply ByteArray.ext; simp [Zs]

theorem last_at (s : ByteArray) (y : Nat) (c : UInt8) (hy : s.size = y + 1) (h : s.data.toList.getLast? = some c) : ∀ h, s[y]'h = c := fun h' => by
  rw [List.getLast?_eq_getElem?, ← Lib.size_eq, hy, Nat.add_sub_cancel, List.getElem?_eq_getElem (by rw [← Lib.size_eq]; exact h')] at h
  exact Option.some.inj h
theorem last_zs (B : ByteArray) (j : Nat) : (B ++ Zs (j + 1)).data.toList.getLast? = some 48 := by
  have : (B ++ Zs (j + 1)).data.toList = B.data.toList ++ List.replicate (j + 1) 48 := by simp [Zs]
  rw [this, List.replicate_succ', ← List.append_assoc, List.getLast?_append]
  rfl

theorem dig46 (d : List UInt8) (h : NP.Dig d) : 46 ∉ d := fun hm => by
  have := NP.digit_dv (h 46 hm)
  exact absurd this.1 (by decide)

/-- Where the point stands in a whole number's text, and in another's. -/
theorem dot_none (m : Bool) (d : List UInt8) (hd : NP.Dig d) (k : Nat) (c : UInt8) (t : List UInt8) (h : (NP.sg m ++ d).drop k = c :: t) : c ≠ 46 := by
  intro e
  have hm : c ∈ NP.sg m ++ d := List.mem_of_mem_drop (by rw [h]; simp)
  rw [e] at hm
  rcases List.mem_append.1 hm with hm | hm
  · cases m <;> simp [NP.sg] at hm
  · exact dig46 d hd hm
theorem dot_some (m : Bool) (d f : List UInt8) (hd : NP.Dig d) (hf : NP.Dig f) (k : Nat) (c : UInt8) (t : List UInt8) (h : (NP.sg m ++ (d ++ 46 :: f)).drop k = c :: t) : (c = 46 ↔ k = (NP.sg m).length + d.length) := by
  have e : (NP.sg m ++ (d ++ 46 :: f))[k]? = some c := by
    have := congrArg List.head? h
    rw [List.head?_drop] at this
    exact this
  rw [← List.append_assoc] at e
  rcases Nat.lt_trichotomy k ((NP.sg m).length + d.length) with hk | hk | hk
  · rw [List.getElem?_append_left (by rw [List.length_append]; exact hk)] at e
    have hm := List.mem_of_getElem? e
    constructor
    · intro h46
      rw [h46] at hm
      rcases List.mem_append.1 hm with hm | hm
      · cases m <;> simp [NP.sg] at hm
      · exact absurd hm (dig46 d hd)
    · omega
  · rw [List.getElem?_append_right (by rw [List.length_append]; omega), List.length_append, hk, Nat.sub_self] at e
    exact ⟨fun _ => hk, fun _ => (Option.some.inj e).symm⟩
  · rw [List.getElem?_append_right (by rw [List.length_append]; omega), List.length_append] at e
    obtain ⟨i, hi⟩ : ∃ i, k - ((NP.sg m).length + d.length) = i + 1 := ⟨k - ((NP.sg m).length + d.length) - 1, by omega⟩
    rw [hi, List.getElem?_cons_succ] at e
    have hm := List.mem_of_getElem? e
    constructor
    · intro h46
      rw [h46] at hm
      exact absurd hm (dig46 f hf)
    · omega

theorem dig_zs (j : Nat) : NP.Dig (List.replicate j 48) := fun c hc => by rw [(List.mem_replicate.1 hc).2]; decide
theorem dig_app {a b : List UInt8} (ha : NP.Dig a) (hb : NP.Dig b) : NP.Dig (a ++ b) := fun c hc => (List.mem_append.1 hc).elim (ha c) (hb c)

set_option maxRecDepth 100000 in
set_option maxHeartbeats 1000000 in
theorem nback_whole_pos (n N zeros T1 : Int) (K q p : Nat) (P R0 X : Int) (s B0 : ByteArray) (c0 : UInt8) (w : World) (e0 : n.tmod 1000000000000 = N) (hN1 : -1000000000000 < N) (hN2 : N < 1000000000000) (hsz : s.size = p) (hp1 : 1 ≤ p) (hp14 : p ≤ 14)
    (e1 : zeros.tmod 7 = T1) (b1 : -7 < T1) (b2 : T1 < 7) (e2 : (T1 + 7).tmod 7 = K) (hK : K < 7)
    (kf : Calls Tryd.prog 7 #[] w fun e w' => e = .returned (.bool true) ∧ Below w.heap.size w w')
    (ks : ∀ W, Below w.heap.size w W → Calls Tryd.prog 13 #[.int .i64 N] W fun e w' => e = .returned (.string s) ∧ Below W.heap.size W w')
    (kp : ∀ W, Below w.heap.size w W → Calls Tryd.prog 8 #[.string s] W fun e w' => e = .returned (.tuple #[.int .i64 N, .nilIface]) ∧ ∃ m, w' = W.drewN m)
    (kt : ∀ (T : ByteArray) (j : Nat) W, T = B0 ++ Zs j → 1 ≤ j → 0 + j ≤ 6 → Below w.heap.size w W → Calls Tryd.prog 8 #[.string T] W fun e w' => e = .returned (.tuple #[.int .i64 N, .nilIface]) ∧ ∃ m, w' = W.drewN m)
    (kw : ∀ W, Calls Tryd.prog 10 #[.string s] W fun e w' => e = .returned (.tuple #[.int .i64 X, .bool true]) ∧ w' = W)
    (hdot : ∀ k c t, s.data.toList.drop k = c :: t → (c = 46 ↔ (k : Int) = P)) (hB0 : B0 = s ++ ⟨#[46]⟩) (hP : P = -1) (hR : N.tmod 1000000 = 0) (hn : 0 ≤ N) (hX : N.tdiv 1000000 = X) (hX0 : 0 ≤ X) (hX1 : X < 1000000) :
    Calls Tryd.prog 4 #[.int .i64 n, .int .i64 zeros] w fun e w' => e = .returned (.bool true) ∧ Below w.heap.size w w' := by
  have KF := Lib.hid kf
  have KS := Lib.hid ks
  have KP := Lib.hid kp
  have KT := Lib.hid kt
  have KW := Lib.hid kw
  have HD := Lib.hid hdot
  have hNN : (N == N) = true := beq_self_eq_true N
  have hp0 : ((p : Int) == 0) = false := by rw [beq_eq_false_iff_ne]; omega

  clear kf ks kp kt kw hdot
  go_enter Tryd.func4, Tryd.ntmps4
  go_wp2_with (first
    | (go_at_call 7; refine KF.out.mono ?_; rintro e w1 ⟨rfl, hb1⟩; have B1 := Lib.hid hb1; clear hb1)
    | (go_at_call 13; refine (KS.out _ B1.out).mono ?_; rintro e w2 ⟨rfl, hb2⟩; have B2 := Lib.hid (B1.out.trans (hb2.mono B1.out.size)); clear hb2)
    | (go_at_call 8; refine (KP.out _ B2.out).mono ?_; rintro e w3 ⟨rfl, m, rfl⟩; have B3 := Lib.hid (below_drewN B2.out m)))
  go_loop [9, 10] (fun y i => ∃ k : Nat, y = .int .i64 (if P < (k : Int) then P else -1) ∧ i = .int .i64 k ∧ k ≤ p) (fun _ i => p - (intOf i).toNat)
  case atStart => exact ⟨0, by congr 1; subst hP; rfl, rfl, Nat.zero_le _⟩
  case round =>
    obtain ⟨k, rfl, rfl, hk⟩ := hrel
    cases hl : s.data.toList.drop k with
    | cons c t =>
      obtain ⟨hlt, hc, -⟩ := at_drop s k c t hl
      have hd := HD.out k c t hl
      have h46 : ((c.toNat : Int) == 46) = decide ((k : Int) = P) := by
        rw [Bool.eq_iff_iff]
        simp only [beq_iff_eq, decide_eq_true_eq]
        rw [← hd]
        constructor
        · intro e; exact UInt8.toNat_inj.1 (show c.toNat = 46 by omega)
        · intro e; rw [e]; rfl
      have hki : (k : Int) < (p : Int) := by omega
      clear hl hd
      by_cases hkP : (k : Int) = P
      · rw [decide_eq_true hkP] at h46
        have HX : Hid ((k : Int) = if P < ((k + 1 : Nat) : Int) then P else -1) := by
          show _ = _
          rw [if_pos (by omega)]; exact hkP
        clear hkP
        go_wp2
        go_round
        case rel => exact ⟨k + 1, by rw [← HX.out], by go_num, by omega⟩
        case measure => simp [intOf]; omega
      · rw [decide_eq_false hkP] at h46
        have HX : Hid ((if P < (k : Int) then P else -1) = if P < ((k + 1 : Nat) : Int) then P else -1) := by
          show _ = _
          by_cases h : P < (k : Int)
          · rw [if_pos h, if_pos (by omega)]
          · rw [if_neg h, if_neg (by omega)]
        clear hkP
        obtain ⟨Y, hY⟩ : ∃ Y, (if P < (k : Int) then P else -1) = Y := ⟨_, rfl⟩
        rw [hY] at HX ⊢
        go_wp2
        go_round
        case rel => exact ⟨k + 1, by rw [← HX.out], by go_num, by omega⟩
        case measure => simp [intOf]; omega
    | nil =>
      have h0 := drop_nil s k hl
      have hkp : k = p := by omega
      clear hl
      subst hkp
      rw [show (if P < (k : Int) then P else -1) = P from by subst hP; split <;> rfl]
      have hki : ¬ ((k : Int) < (k : Int)) := by omega
      subst hP
      have hB0s : B0.size = k + 1 := by rw [hB0, ByteArray.size_append, hsz]; rfl

      go_wp2
      go_loop [11, 12] (fun T i => ∃ (t : ByteArray) (j : Nat), T = .string t ∧ i = .int .i64 j ∧ j ≤ K ∧ 0 + j ≤ 6 ∧ t.size = B0.size + j ∧ Hid (t = B0 ++ Zs j)) (fun _ i => K - (intOf i).toNat)
      case atStart => exact ⟨_, 0, rfl, rfl, Nat.zero_le _, by omega, by rw [ByteArray.size_append, hsz, hB0s]; rfl, by show _ = _; rw [zs_none, hB0]⟩
      case round =>
        obtain ⟨T, j, rfl, rfl, hj, hgj, hT, HT⟩ := hrel
        by_cases hgo : j < K ∧ 0 + j < 6
        · have q1 : (j : Int) < (K : Int) := by omega
          have q2 : ((T.size : Int) - (k : Int) - 1) < 6 := by omega
          go_wp2
          go_round
          case rel => exact ⟨T ++ ⟨#[48]⟩, j + 1, rfl, by go_num, by omega, by omega, by rw [ByteArray.size_append, hT]; rfl, by show _ = _; rw [HT.out, zs_more]⟩
          case measure => simp [intOf]; omega
        · by_cases q1 : j < K
          · have q1i : (j : Int) < (K : Int) := by omega
            cases j with
            | zero =>
              exfalso; omega
            | succ i =>
              exfalso; omega
          · have q1i : ¬ ((j : Int) < (K : Int)) := by omega
            cases j with
            | zero =>
              have HTB : Hid (T = B0) := by have := HT.out; rw [zs_none] at this; exact this
              have hTs : T.size = k + 1 := by rw [hT]; omega
              clear hT
              have hc := last_at T (k) 46 hTs (by rw [HTB.out]; exact (by rw [hB0]; simp))
              have kz := KT.out (T ++ ⟨#[48]⟩) 1 _ (by rw [HTB.out, ← zs_more, zs_none]) (by omega) (by omega) B3.out
              have KZ := Lib.hid kz
              clear kz
              go_wp2_with (first
                | (go_at_call 8; refine KZ.out.mono ?_; rintro e w5 ⟨rfl, m2, rfl⟩)
                | (go_at_call 10; refine (KW.out _).mono ?_; rintro e w6 ⟨rfl, rfl⟩))
              go_ret
              exact ⟨rfl, below_drewN B2.out _⟩
            | succ i =>
              obtain ⟨z, hz⟩ : ∃ z, k + (i + 1) = z := ⟨_, rfl⟩
              have hTs : T.size = z + 1 := by rw [hT]; omega
              clear hT
              have hc := last_at T z 48 hTs (by rw [HT.out]; exact last_zs _ _)
              have kz := KT.out T (i + 1) _ (HT.out) (by omega) (by omega) B3.out
              have KZ := Lib.hid kz
              clear kz
              go_wp2_with (first
                | (go_at_call 8; refine KZ.out.mono ?_; rintro e w5 ⟨rfl, m2, rfl⟩)
                | (go_at_call 10; refine (KW.out _).mono ?_; rintro e w6 ⟨rfl, rfl⟩))
              go_ret
              exact ⟨rfl, below_drewN B2.out _⟩

set_option maxRecDepth 100000 in
set_option maxHeartbeats 1000000 in
theorem nback_whole_neg (n N zeros T1 : Int) (K q p : Nat) (P R0 X : Int) (s B0 : ByteArray) (c0 : UInt8) (w : World) (e0 : n.tmod 1000000000000 = N) (hN1 : -1000000000000 < N) (hN2 : N < 1000000000000) (hsz : s.size = p) (hp1 : 1 ≤ p) (hp14 : p ≤ 14)
    (e1 : zeros.tmod 7 = T1) (b1 : -7 < T1) (b2 : T1 < 7) (e2 : (T1 + 7).tmod 7 = K) (hK : K < 7)
    (kf : Calls Tryd.prog 7 #[] w fun e w' => e = .returned (.bool true) ∧ Below w.heap.size w w')
    (ks : ∀ W, Below w.heap.size w W → Calls Tryd.prog 13 #[.int .i64 N] W fun e w' => e = .returned (.string s) ∧ Below W.heap.size W w')
    (kp : ∀ W, Below w.heap.size w W → Calls Tryd.prog 8 #[.string s] W fun e w' => e = .returned (.tuple #[.int .i64 N, .nilIface]) ∧ ∃ m, w' = W.drewN m)
    (kt : ∀ (T : ByteArray) (j : Nat) W, T = B0 ++ Zs j → 1 ≤ j → 0 + j ≤ 6 → Below w.heap.size w W → Calls Tryd.prog 8 #[.string T] W fun e w' => e = .returned (.tuple #[.int .i64 N, .nilIface]) ∧ ∃ m, w' = W.drewN m)
    (kw : ∀ W, Calls Tryd.prog 10 #[.string s] W fun e w' => e = .returned (.tuple #[.int .i64 X, .bool false]) ∧ w' = W)
    (hdot : ∀ k c t, s.data.toList.drop k = c :: t → (c = 46 ↔ (k : Int) = P)) (hB0 : B0 = s ++ ⟨#[46]⟩) (hP : P = -1) (hR : N.tmod 1000000 = 0) (hn : ¬ 0 ≤ N) :
    Calls Tryd.prog 4 #[.int .i64 n, .int .i64 zeros] w fun e w' => e = .returned (.bool true) ∧ Below w.heap.size w w' := by
  have KF := Lib.hid kf
  have KS := Lib.hid ks
  have KP := Lib.hid kp
  have KT := Lib.hid kt
  have KW := Lib.hid kw
  have HD := Lib.hid hdot
  have hNN : (N == N) = true := beq_self_eq_true N
  have hp0 : ((p : Int) == 0) = false := by rw [beq_eq_false_iff_ne]; omega

  clear kf ks kp kt kw hdot
  go_enter Tryd.func4, Tryd.ntmps4
  go_wp2_with (first
    | (go_at_call 7; refine KF.out.mono ?_; rintro e w1 ⟨rfl, hb1⟩; have B1 := Lib.hid hb1; clear hb1)
    | (go_at_call 13; refine (KS.out _ B1.out).mono ?_; rintro e w2 ⟨rfl, hb2⟩; have B2 := Lib.hid (B1.out.trans (hb2.mono B1.out.size)); clear hb2)
    | (go_at_call 8; refine (KP.out _ B2.out).mono ?_; rintro e w3 ⟨rfl, m, rfl⟩; have B3 := Lib.hid (below_drewN B2.out m)))
  go_loop [9, 10] (fun y i => ∃ k : Nat, y = .int .i64 (if P < (k : Int) then P else -1) ∧ i = .int .i64 k ∧ k ≤ p) (fun _ i => p - (intOf i).toNat)
  case atStart => exact ⟨0, by congr 1; subst hP; rfl, rfl, Nat.zero_le _⟩
  case round =>
    obtain ⟨k, rfl, rfl, hk⟩ := hrel
    cases hl : s.data.toList.drop k with
    | cons c t =>
      obtain ⟨hlt, hc, -⟩ := at_drop s k c t hl
      have hd := HD.out k c t hl
      have h46 : ((c.toNat : Int) == 46) = decide ((k : Int) = P) := by
        rw [Bool.eq_iff_iff]
        simp only [beq_iff_eq, decide_eq_true_eq]
        rw [← hd]
        constructor
        · intro e; exact UInt8.toNat_inj.1 (show c.toNat = 46 by omega)
        · intro e; rw [e]; rfl
      have hki : (k : Int) < (p : Int) := by omega
      clear hl hd
      by_cases hkP : (k : Int) = P
      · rw [decide_eq_true hkP] at h46
        have HX : Hid ((k : Int) = if P < ((k + 1 : Nat) : Int) then P else -1) := by
          show _ = _
          rw [if_pos (by omega)]; exact hkP
        clear hkP
        go_wp2
        go_round
        case rel => exact ⟨k + 1, by rw [← HX.out], by go_num, by omega⟩
        case measure => simp [intOf]; omega
      · rw [decide_eq_false hkP] at h46
        have HX : Hid ((if P < (k : Int) then P else -1) = if P < ((k + 1 : Nat) : Int) then P else -1) := by
          show _ = _
          by_cases h : P < (k : Int)
          · rw [if_pos h, if_pos (by omega)]
          · rw [if_neg h, if_neg (by omega)]
        clear hkP
        obtain ⟨Y, hY⟩ : ∃ Y, (if P < (k : Int) then P else -1) = Y := ⟨_, rfl⟩
        rw [hY] at HX ⊢
        go_wp2
        go_round
        case rel => exact ⟨k + 1, by rw [← HX.out], by go_num, by omega⟩
        case measure => simp [intOf]; omega
    | nil =>
      have h0 := drop_nil s k hl
      have hkp : k = p := by omega
      clear hl
      subst hkp
      rw [show (if P < (k : Int) then P else -1) = P from by subst hP; split <;> rfl]
      have hki : ¬ ((k : Int) < (k : Int)) := by omega
      subst hP
      have hB0s : B0.size = k + 1 := by rw [hB0, ByteArray.size_append, hsz]; rfl

      go_wp2
      go_loop [11, 12] (fun T i => ∃ (t : ByteArray) (j : Nat), T = .string t ∧ i = .int .i64 j ∧ j ≤ K ∧ 0 + j ≤ 6 ∧ t.size = B0.size + j ∧ Hid (t = B0 ++ Zs j)) (fun _ i => K - (intOf i).toNat)
      case atStart => exact ⟨_, 0, rfl, rfl, Nat.zero_le _, by omega, by rw [ByteArray.size_append, hsz, hB0s]; rfl, by show _ = _; rw [zs_none, hB0]⟩
      case round =>
        obtain ⟨T, j, rfl, rfl, hj, hgj, hT, HT⟩ := hrel
        by_cases hgo : j < K ∧ 0 + j < 6
        · have q1 : (j : Int) < (K : Int) := by omega
          have q2 : ((T.size : Int) - (k : Int) - 1) < 6 := by omega
          go_wp2
          go_round
          case rel => exact ⟨T ++ ⟨#[48]⟩, j + 1, rfl, by go_num, by omega, by omega, by rw [ByteArray.size_append, hT]; rfl, by show _ = _; rw [HT.out, zs_more]⟩
          case measure => simp [intOf]; omega
        · by_cases q1 : j < K
          · have q1i : (j : Int) < (K : Int) := by omega
            cases j with
            | zero =>
              exfalso; omega
            | succ i =>
              exfalso; omega
          · have q1i : ¬ ((j : Int) < (K : Int)) := by omega
            cases j with
            | zero =>
              have HTB : Hid (T = B0) := by have := HT.out; rw [zs_none] at this; exact this
              have hTs : T.size = k + 1 := by rw [hT]; omega
              clear hT
              have hc := last_at T (k) 46 hTs (by rw [HTB.out]; exact (by rw [hB0]; simp))
              have kz := KT.out (T ++ ⟨#[48]⟩) 1 _ (by rw [HTB.out, ← zs_more, zs_none]) (by omega) (by omega) B3.out
              have KZ := Lib.hid kz
              clear kz
              go_wp2_with (first
                | (go_at_call 8; refine KZ.out.mono ?_; rintro e w5 ⟨rfl, m2, rfl⟩)
                | (go_at_call 10; refine (KW.out _).mono ?_; rintro e w6 ⟨rfl, rfl⟩))
              go_ret
              exact ⟨rfl, below_drewN B2.out _⟩
            | succ i =>
              obtain ⟨z, hz⟩ : ∃ z, k + (i + 1) = z := ⟨_, rfl⟩
              have hTs : T.size = z + 1 := by rw [hT]; omega
              clear hT
              have hc := last_at T z 48 hTs (by rw [HT.out]; exact last_zs _ _)
              have kz := KT.out T (i + 1) _ (HT.out) (by omega) (by omega) B3.out
              have KZ := Lib.hid kz
              clear kz
              go_wp2_with (first
                | (go_at_call 8; refine KZ.out.mono ?_; rintro e w5 ⟨rfl, m2, rfl⟩)
                | (go_at_call 10; refine (KW.out _).mono ?_; rintro e w6 ⟨rfl, rfl⟩))
              go_ret
              exact ⟨rfl, below_drewN B2.out _⟩

set_option maxRecDepth 100000 in
set_option maxHeartbeats 1000000 in
theorem nback_part_pos (n N zeros T1 : Int) (K q p g D : Nat) (P R0 X : Int) (s B0 : ByteArray) (c0 : UInt8) (w : World) (e0 : n.tmod 1000000000000 = N) (hN1 : -1000000000000 < N) (hN2 : N < 1000000000000) (hsz : s.size = p) (hp1 : 1 ≤ p) (hp14 : p ≤ 14)
    (e1 : zeros.tmod 7 = T1) (b1 : -7 < T1) (b2 : T1 < 7) (e2 : (T1 + 7).tmod 7 = K) (hK : K < 7)
    (kf : Calls Tryd.prog 7 #[] w fun e w' => e = .returned (.bool true) ∧ Below w.heap.size w w')
    (ks : ∀ W, Below w.heap.size w W → Calls Tryd.prog 13 #[.int .i64 N] W fun e w' => e = .returned (.string s) ∧ Below W.heap.size W w')
    (kp : ∀ W, Below w.heap.size w W → Calls Tryd.prog 8 #[.string s] W fun e w' => e = .returned (.tuple #[.int .i64 N, .nilIface]) ∧ ∃ m, w' = W.drewN m)
    (kt : ∀ (T : ByteArray) (j : Nat) W, T = B0 ++ Zs j →  g + j ≤ 6 → Below w.heap.size w W → Calls Tryd.prog 8 #[.string T] W fun e w' => e = .returned (.tuple #[.int .i64 N, .nilIface]) ∧ ∃ m, w' = W.drewN m)
    (kw : ∀ W, Calls Tryd.prog 10 #[.string s] W fun e w' => e = .returned (.tuple #[.int .i64 X, .bool false]) ∧ w' = W)
    (hdot : ∀ k c t, s.data.toList.drop k = c :: t → (c = 46 ↔ (k : Int) = P)) (hB0 : B0 = s) (hP : P = (D : Int)) (hD : 1 ≤ D) (hDg : D + 1 + g = p) (hg1 : 1 ≤ g) (hg6 : g ≤ 6) (hR : N.tmod 1000000 = R0) (hRne : R0 ≠ 0) (hlast : s.data.toList.getLast? = some c0) (h48 : ((c0.toNat : Int) == 48) = false) (h46 : ((c0.toNat : Int) == 46) = false) (hn : 0 ≤ N) :
    Calls Tryd.prog 4 #[.int .i64 n, .int .i64 zeros] w fun e w' => e = .returned (.bool true) ∧ Below w.heap.size w w' := by
  have KF := Lib.hid kf
  have KS := Lib.hid ks
  have KP := Lib.hid kp
  have KT := Lib.hid kt
  have KW := Lib.hid kw
  have HD := Lib.hid hdot
  have hNN : (N == N) = true := beq_self_eq_true N
  have hp0 : ((p : Int) == 0) = false := by rw [beq_eq_false_iff_ne]; omega
  have hR0 : (R0 == 0) = false := by rw [beq_eq_false_iff_ne]; exact hRne
  have hR1 : (R0 != 0) = true := by rw [bne_iff_ne]; exact hRne
  have hD0 : ((D : Int) == 0) = false := by rw [beq_eq_false_iff_ne]; omega

  clear kf ks kp kt kw hdot
  go_enter Tryd.func4, Tryd.ntmps4
  go_wp2_with (first
    | (go_at_call 7; refine KF.out.mono ?_; rintro e w1 ⟨rfl, hb1⟩; have B1 := Lib.hid hb1; clear hb1)
    | (go_at_call 13; refine (KS.out _ B1.out).mono ?_; rintro e w2 ⟨rfl, hb2⟩; have B2 := Lib.hid (B1.out.trans (hb2.mono B1.out.size)); clear hb2)
    | (go_at_call 8; refine (KP.out _ B2.out).mono ?_; rintro e w3 ⟨rfl, m, rfl⟩; have B3 := Lib.hid (below_drewN B2.out m)))
  go_loop [9, 10] (fun y i => ∃ k : Nat, y = .int .i64 (if P < (k : Int) then P else -1) ∧ i = .int .i64 k ∧ k ≤ p) (fun _ i => p - (intOf i).toNat)
  case atStart => exact ⟨0, by congr 1; rw [if_neg (by omega)], rfl, Nat.zero_le _⟩
  case round =>
    obtain ⟨k, rfl, rfl, hk⟩ := hrel
    cases hl : s.data.toList.drop k with
    | cons c t =>
      obtain ⟨hlt, hc, -⟩ := at_drop s k c t hl
      have hd := HD.out k c t hl
      have h46 : ((c.toNat : Int) == 46) = decide ((k : Int) = P) := by
        rw [Bool.eq_iff_iff]
        simp only [beq_iff_eq, decide_eq_true_eq]
        rw [← hd]
        constructor
        · intro e; exact UInt8.toNat_inj.1 (show c.toNat = 46 by omega)
        · intro e; rw [e]; rfl
      have hki : (k : Int) < (p : Int) := by omega
      clear hl hd
      by_cases hkP : (k : Int) = P
      · rw [decide_eq_true hkP] at h46
        have HX : Hid ((k : Int) = if P < ((k + 1 : Nat) : Int) then P else -1) := by
          show _ = _
          rw [if_pos (by omega)]; exact hkP
        clear hkP
        go_wp2
        go_round
        case rel => exact ⟨k + 1, by rw [← HX.out], by go_num, by omega⟩
        case measure => simp [intOf]; omega
      · rw [decide_eq_false hkP] at h46
        have HX : Hid ((if P < (k : Int) then P else -1) = if P < ((k + 1 : Nat) : Int) then P else -1) := by
          show _ = _
          by_cases h : P < (k : Int)
          · rw [if_pos h, if_pos (by omega)]
          · rw [if_neg h, if_neg (by omega)]
        clear hkP
        obtain ⟨Y, hY⟩ : ∃ Y, (if P < (k : Int) then P else -1) = Y := ⟨_, rfl⟩
        rw [hY] at HX ⊢
        go_wp2
        go_round
        case rel => exact ⟨k + 1, by rw [← HX.out], by go_num, by omega⟩
        case measure => simp [intOf]; omega
    | nil =>
      have h0 := drop_nil s k hl
      have hkp : k = p := by omega
      clear hl
      subst hkp
      rw [show (if P < (k : Int) then P else -1) = P from by rw [if_pos (by omega)]]
      have hki : ¬ ((k : Int) < (k : Int)) := by omega
      have hl1 : k = (k - 1) + 1 := by omega
      obtain ⟨y, hy⟩ : ∃ y, k = y + 1 := ⟨k - 1, by omega⟩
      have hcl := last_at s y c0 (by omega) hlast
      subst hy
      clear hl1
      subst hP
      have hB0s : B0.size = y + 1 := by rw [hB0, hsz]

      go_wp2
      go_loop [11, 12] (fun T i => ∃ (t : ByteArray) (j : Nat), T = .string t ∧ i = .int .i64 j ∧ j ≤ K ∧ g + j ≤ 6 ∧ t.size = B0.size + j ∧ Hid (t = B0 ++ Zs j)) (fun _ i => K - (intOf i).toNat)
      case atStart => exact ⟨_, 0, rfl, rfl, Nat.zero_le _, by omega, by omega, by show _ = _; rw [zs_none, hB0]⟩
      case round =>
        obtain ⟨T, j, rfl, rfl, hj, hgj, hT, HT⟩ := hrel
        by_cases hgo : j < K ∧ g + j < 6
        · have q1 : (j : Int) < (K : Int) := by omega
          have q2 : ((T.size : Int) - (D : Int) - 1) < 6 := by omega
          go_wp2
          go_round
          case rel => exact ⟨T ++ ⟨#[48]⟩, j + 1, rfl, by go_num, by omega, by omega, by rw [ByteArray.size_append, hT]; rfl, by show _ = _; rw [HT.out, zs_more]⟩
          case measure => simp [intOf]; omega
        · by_cases q1 : j < K
          · have q1i : (j : Int) < (K : Int) := by omega
            cases j with
            | zero =>
              have HTB : Hid (T = B0) := by have := HT.out; rw [zs_none] at this; exact this
              have hTs : T.size = y + 1 := by rw [hT]; omega
              clear hT
              have hc := last_at T (y) c0 hTs (by rw [HTB.out]; exact (by rw [hB0]; exact hlast))
              have q2 : ¬ (((T.size : Int) - (D : Int) - 1) < 6) := by omega
              have kz := KT.out T 0 _ (HT.out) (by omega) B3.out
              have KZ := Lib.hid kz
              clear kz
              go_wp2_with (first
                | (go_at_call 8; refine KZ.out.mono ?_; rintro e w5 ⟨rfl, m2, rfl⟩)
                | (go_at_call 10; refine (KW.out _).mono ?_; rintro e w6 ⟨rfl, rfl⟩))
              go_ret
              exact ⟨rfl, below_drewN B2.out _⟩
            | succ i =>
              obtain ⟨z, hz⟩ : ∃ z, y + (i + 1) = z := ⟨_, rfl⟩
              have hTs : T.size = z + 1 := by rw [hT]; omega
              clear hT
              have hc := last_at T z 48 hTs (by rw [HT.out]; exact last_zs _ _)
              have q2 : ¬ (((T.size : Int) - (D : Int) - 1) < 6) := by omega
              have kz := KT.out T (i + 1) _ (HT.out) (by omega) B3.out
              have KZ := Lib.hid kz
              clear kz
              go_wp2_with (first
                | (go_at_call 8; refine KZ.out.mono ?_; rintro e w5 ⟨rfl, m2, rfl⟩)
                | (go_at_call 10; refine (KW.out _).mono ?_; rintro e w6 ⟨rfl, rfl⟩))
              go_ret
              exact ⟨rfl, below_drewN B2.out _⟩
          · have q1i : ¬ ((j : Int) < (K : Int)) := by omega
            cases j with
            | zero =>
              have HTB : Hid (T = B0) := by have := HT.out; rw [zs_none] at this; exact this
              have hTs : T.size = y + 1 := by rw [hT]; omega
              clear hT
              have hc := last_at T (y) c0 hTs (by rw [HTB.out]; exact (by rw [hB0]; exact hlast))
              have kz := KT.out T 0 _ (HT.out) (by omega) B3.out
              have KZ := Lib.hid kz
              clear kz
              go_wp2_with (first
                | (go_at_call 8; refine KZ.out.mono ?_; rintro e w5 ⟨rfl, m2, rfl⟩)
                | (go_at_call 10; refine (KW.out _).mono ?_; rintro e w6 ⟨rfl, rfl⟩))
              go_ret
              exact ⟨rfl, below_drewN B2.out _⟩
            | succ i =>
              obtain ⟨z, hz⟩ : ∃ z, y + (i + 1) = z := ⟨_, rfl⟩
              have hTs : T.size = z + 1 := by rw [hT]; omega
              clear hT
              have hc := last_at T z 48 hTs (by rw [HT.out]; exact last_zs _ _)
              have kz := KT.out T (i + 1) _ (HT.out) (by omega) B3.out
              have KZ := Lib.hid kz
              clear kz
              go_wp2_with (first
                | (go_at_call 8; refine KZ.out.mono ?_; rintro e w5 ⟨rfl, m2, rfl⟩)
                | (go_at_call 10; refine (KW.out _).mono ?_; rintro e w6 ⟨rfl, rfl⟩))
              go_ret
              exact ⟨rfl, below_drewN B2.out _⟩

set_option maxRecDepth 100000 in
set_option maxHeartbeats 1000000 in
theorem nback_part_neg (n N zeros T1 : Int) (K q p g D : Nat) (P R0 X : Int) (s B0 : ByteArray) (c0 : UInt8) (w : World) (e0 : n.tmod 1000000000000 = N) (hN1 : -1000000000000 < N) (hN2 : N < 1000000000000) (hsz : s.size = p) (hp1 : 1 ≤ p) (hp14 : p ≤ 14)
    (e1 : zeros.tmod 7 = T1) (b1 : -7 < T1) (b2 : T1 < 7) (e2 : (T1 + 7).tmod 7 = K) (hK : K < 7)
    (kf : Calls Tryd.prog 7 #[] w fun e w' => e = .returned (.bool true) ∧ Below w.heap.size w w')
    (ks : ∀ W, Below w.heap.size w W → Calls Tryd.prog 13 #[.int .i64 N] W fun e w' => e = .returned (.string s) ∧ Below W.heap.size W w')
    (kp : ∀ W, Below w.heap.size w W → Calls Tryd.prog 8 #[.string s] W fun e w' => e = .returned (.tuple #[.int .i64 N, .nilIface]) ∧ ∃ m, w' = W.drewN m)
    (kt : ∀ (T : ByteArray) (j : Nat) W, T = B0 ++ Zs j →  g + j ≤ 6 → Below w.heap.size w W → Calls Tryd.prog 8 #[.string T] W fun e w' => e = .returned (.tuple #[.int .i64 N, .nilIface]) ∧ ∃ m, w' = W.drewN m)
    (kw : ∀ W, Calls Tryd.prog 10 #[.string s] W fun e w' => e = .returned (.tuple #[.int .i64 X, .bool false]) ∧ w' = W)
    (hdot : ∀ k c t, s.data.toList.drop k = c :: t → (c = 46 ↔ (k : Int) = P)) (hB0 : B0 = s) (hP : P = (D : Int)) (hD : 1 ≤ D) (hDg : D + 1 + g = p) (hg1 : 1 ≤ g) (hg6 : g ≤ 6) (hR : N.tmod 1000000 = R0) (hRne : R0 ≠ 0) (hlast : s.data.toList.getLast? = some c0) (h48 : ((c0.toNat : Int) == 48) = false) (h46 : ((c0.toNat : Int) == 46) = false) (hn : ¬ 0 ≤ N) :
    Calls Tryd.prog 4 #[.int .i64 n, .int .i64 zeros] w fun e w' => e = .returned (.bool true) ∧ Below w.heap.size w w' := by
  have KF := Lib.hid kf
  have KS := Lib.hid ks
  have KP := Lib.hid kp
  have KT := Lib.hid kt
  have KW := Lib.hid kw
  have HD := Lib.hid hdot
  have hNN : (N == N) = true := beq_self_eq_true N
  have hp0 : ((p : Int) == 0) = false := by rw [beq_eq_false_iff_ne]; omega
  have hR0 : (R0 == 0) = false := by rw [beq_eq_false_iff_ne]; exact hRne
  have hR1 : (R0 != 0) = true := by rw [bne_iff_ne]; exact hRne
  have hD0 : ((D : Int) == 0) = false := by rw [beq_eq_false_iff_ne]; omega

  clear kf ks kp kt kw hdot
  go_enter Tryd.func4, Tryd.ntmps4
  go_wp2_with (first
    | (go_at_call 7; refine KF.out.mono ?_; rintro e w1 ⟨rfl, hb1⟩; have B1 := Lib.hid hb1; clear hb1)
    | (go_at_call 13; refine (KS.out _ B1.out).mono ?_; rintro e w2 ⟨rfl, hb2⟩; have B2 := Lib.hid (B1.out.trans (hb2.mono B1.out.size)); clear hb2)
    | (go_at_call 8; refine (KP.out _ B2.out).mono ?_; rintro e w3 ⟨rfl, m, rfl⟩; have B3 := Lib.hid (below_drewN B2.out m)))
  go_loop [9, 10] (fun y i => ∃ k : Nat, y = .int .i64 (if P < (k : Int) then P else -1) ∧ i = .int .i64 k ∧ k ≤ p) (fun _ i => p - (intOf i).toNat)
  case atStart => exact ⟨0, by congr 1; rw [if_neg (by omega)], rfl, Nat.zero_le _⟩
  case round =>
    obtain ⟨k, rfl, rfl, hk⟩ := hrel
    cases hl : s.data.toList.drop k with
    | cons c t =>
      obtain ⟨hlt, hc, -⟩ := at_drop s k c t hl
      have hd := HD.out k c t hl
      have h46 : ((c.toNat : Int) == 46) = decide ((k : Int) = P) := by
        rw [Bool.eq_iff_iff]
        simp only [beq_iff_eq, decide_eq_true_eq]
        rw [← hd]
        constructor
        · intro e; exact UInt8.toNat_inj.1 (show c.toNat = 46 by omega)
        · intro e; rw [e]; rfl
      have hki : (k : Int) < (p : Int) := by omega
      clear hl hd
      by_cases hkP : (k : Int) = P
      · rw [decide_eq_true hkP] at h46
        have HX : Hid ((k : Int) = if P < ((k + 1 : Nat) : Int) then P else -1) := by
          show _ = _
          rw [if_pos (by omega)]; exact hkP
        clear hkP
        go_wp2
        go_round
        case rel => exact ⟨k + 1, by rw [← HX.out], by go_num, by omega⟩
        case measure => simp [intOf]; omega
      · rw [decide_eq_false hkP] at h46
        have HX : Hid ((if P < (k : Int) then P else -1) = if P < ((k + 1 : Nat) : Int) then P else -1) := by
          show _ = _
          by_cases h : P < (k : Int)
          · rw [if_pos h, if_pos (by omega)]
          · rw [if_neg h, if_neg (by omega)]
        clear hkP
        obtain ⟨Y, hY⟩ : ∃ Y, (if P < (k : Int) then P else -1) = Y := ⟨_, rfl⟩
        rw [hY] at HX ⊢
        go_wp2
        go_round
        case rel => exact ⟨k + 1, by rw [← HX.out], by go_num, by omega⟩
        case measure => simp [intOf]; omega
    | nil =>
      have h0 := drop_nil s k hl
      have hkp : k = p := by omega
      clear hl
      subst hkp
      rw [show (if P < (k : Int) then P else -1) = P from by rw [if_pos (by omega)]]
      have hki : ¬ ((k : Int) < (k : Int)) := by omega
      have hl1 : k = (k - 1) + 1 := by omega
      obtain ⟨y, hy⟩ : ∃ y, k = y + 1 := ⟨k - 1, by omega⟩
      have hcl := last_at s y c0 (by omega) hlast
      subst hy
      clear hl1
      subst hP
      have hB0s : B0.size = y + 1 := by rw [hB0, hsz]

      go_wp2
      go_loop [11, 12] (fun T i => ∃ (t : ByteArray) (j : Nat), T = .string t ∧ i = .int .i64 j ∧ j ≤ K ∧ g + j ≤ 6 ∧ t.size = B0.size + j ∧ Hid (t = B0 ++ Zs j)) (fun _ i => K - (intOf i).toNat)
      case atStart => exact ⟨_, 0, rfl, rfl, Nat.zero_le _, by omega, by omega, by show _ = _; rw [zs_none, hB0]⟩
      case round =>
        obtain ⟨T, j, rfl, rfl, hj, hgj, hT, HT⟩ := hrel
        by_cases hgo : j < K ∧ g + j < 6
        · have q1 : (j : Int) < (K : Int) := by omega
          have q2 : ((T.size : Int) - (D : Int) - 1) < 6 := by omega
          go_wp2
          go_round
          case rel => exact ⟨T ++ ⟨#[48]⟩, j + 1, rfl, by go_num, by omega, by omega, by rw [ByteArray.size_append, hT]; rfl, by show _ = _; rw [HT.out, zs_more]⟩
          case measure => simp [intOf]; omega
        · by_cases q1 : j < K
          · have q1i : (j : Int) < (K : Int) := by omega
            cases j with
            | zero =>
              have HTB : Hid (T = B0) := by have := HT.out; rw [zs_none] at this; exact this
              have hTs : T.size = y + 1 := by rw [hT]; omega
              clear hT
              have hc := last_at T (y) c0 hTs (by rw [HTB.out]; exact (by rw [hB0]; exact hlast))
              have q2 : ¬ (((T.size : Int) - (D : Int) - 1) < 6) := by omega
              have kz := KT.out T 0 _ (HT.out) (by omega) B3.out
              have KZ := Lib.hid kz
              clear kz
              go_wp2_with (first
                | (go_at_call 8; refine KZ.out.mono ?_; rintro e w5 ⟨rfl, m2, rfl⟩)
                | (go_at_call 10; refine (KW.out _).mono ?_; rintro e w6 ⟨rfl, rfl⟩))
              go_ret
              exact ⟨rfl, below_drewN B2.out _⟩
            | succ i =>
              obtain ⟨z, hz⟩ : ∃ z, y + (i + 1) = z := ⟨_, rfl⟩
              have hTs : T.size = z + 1 := by rw [hT]; omega
              clear hT
              have hc := last_at T z 48 hTs (by rw [HT.out]; exact last_zs _ _)
              have q2 : ¬ (((T.size : Int) - (D : Int) - 1) < 6) := by omega
              have kz := KT.out T (i + 1) _ (HT.out) (by omega) B3.out
              have KZ := Lib.hid kz
              clear kz
              go_wp2_with (first
                | (go_at_call 8; refine KZ.out.mono ?_; rintro e w5 ⟨rfl, m2, rfl⟩)
                | (go_at_call 10; refine (KW.out _).mono ?_; rintro e w6 ⟨rfl, rfl⟩))
              go_ret
              exact ⟨rfl, below_drewN B2.out _⟩
          · have q1i : ¬ ((j : Int) < (K : Int)) := by omega
            cases j with
            | zero =>
              have HTB : Hid (T = B0) := by have := HT.out; rw [zs_none] at this; exact this
              have hTs : T.size = y + 1 := by rw [hT]; omega
              clear hT
              have hc := last_at T (y) c0 hTs (by rw [HTB.out]; exact (by rw [hB0]; exact hlast))
              have kz := KT.out T 0 _ (HT.out) (by omega) B3.out
              have KZ := Lib.hid kz
              clear kz
              go_wp2_with (first
                | (go_at_call 8; refine KZ.out.mono ?_; rintro e w5 ⟨rfl, m2, rfl⟩)
                | (go_at_call 10; refine (KW.out _).mono ?_; rintro e w6 ⟨rfl, rfl⟩))
              go_ret
              exact ⟨rfl, below_drewN B2.out _⟩
            | succ i =>
              obtain ⟨z, hz⟩ : ∃ z, y + (i + 1) = z := ⟨_, rfl⟩
              have hTs : T.size = z + 1 := by rw [hT]; omega
              clear hT
              have hc := last_at T z 48 hTs (by rw [HT.out]; exact last_zs _ _)
              have kz := KT.out T (i + 1) _ (HT.out) (by omega) B3.out
              have KZ := Lib.hid kz
              clear kz
              go_wp2_with (first
                | (go_at_call 8; refine KZ.out.mono ?_; rintro e w5 ⟨rfl, m2, rfl⟩)
                | (go_at_call 10; refine (KW.out _).mono ?_; rintro e w6 ⟨rfl, rfl⟩))
              go_ret
              exact ⟨rfl, below_drewN B2.out _⟩

end Go.Proofs.YtepilofedebmeaaDoor

/-
  The document's own digit, whole number: walked over the document's text.
-/
import Derived.Test.YtepilofedebmeaaDoorNumFirst
namespace Go.Proofs.YtepilofedebmeaaDoor
open Go.RowKit

/-- A function of one byte tells what p tells. -/
def Tells (K : Nat) (p : UInt8 → Bool) : Prop := ∀ (c : UInt8) (w : World), Calls Tryd.prog K #[.int .u8 (c.toNat : Int)] w fun e w' => e = .returned (.bool (p c)) ∧ w' = w

theorem rdigit_any : Tells 20 WP.digit := by
  intro c w
  have HP : Hid (WP.digit c = (decide (48 ≤ c.toNat) && decide (c.toNat ≤ 57))) := rfl
  obtain ⟨P, hP⟩ : ∃ P, WP.digit c = P := ⟨_, rfl⟩
  obtain ⟨n, hn⟩ : ∃ n, c.toNat = n := ⟨_, rfl⟩
  rw [hn] at HP ⊢
  rw [hP] at HP ⊢
  by_cases h1 : 48 ≤ n <;> by_cases h2 : n ≤ 57
  all_goals
    go_enter Tryd.func20, Tryd.ntmps20
    go_wp2
    all_goals go_ret
    all_goals exact ⟨by rw [HP.out]; simp [h1, h2] <;> omega, rfl⟩


set_option maxRecDepth 20000 in
theorem rwhole_any (s : ByteArray) (w : World) :
    Calls Tryd.prog 11 #[.string s] w fun e w' => e = .returned (wv (NP.whole s.data.toList)) ∧ w' = w := by
  obtain ⟨R, hR⟩ : ∃ R, NP.whole s.data.toList = R := ⟨_, rfl⟩
  rw [hR]
  unfold NP.whole at hR
  rw [← Lib.size_eq] at hR
  have kd := Lib.hid (fun c W => rdigit_any c W)
  by_cases h1 : 1 ≤ s.size
  · by_cases h6 : s.size ≤ 6
    · rw [if_pos ⟨h1, h6⟩] at hR
      have HR0 := hid'' hR
      clear hR
      go_enter Tryd.func11, Tryd.ntmps11
      go_wp2
      go_loop [4, 5] (fun n i => ∃ k m : Nat, n = .int .i64 m ∧ i = .int .i64 k ∧ k ≤ s.size ∧ Hid (m < 10 ^ k) ∧ Hid (NP.wholeGo m (s.data.toList.drop k) = R)) (fun _ i => s.size - (intOf i).toNat)
      case atStart => exact ⟨0, 0, rfl, rfl, Nat.zero_le _, hid'' (by simp), hid'' (by rw [List.drop_zero]; exact HR0.out)⟩
      case round =>
        obtain ⟨k, m, rfl, rfl, hk, hm, hr⟩ := hrel
        cases hl : s.data.toList.drop k with
        | nil =>
          have h0 := drop_nil s k hl
          have hks : k = s.size := by omega
          have HX : Hid (R = some m) := by
            have := hr.out
            rw [hl] at this
            exact this.symm
          clear hl
          subst hks
          have hki : ¬ ((s.size : Int) < (s.size : Int)) := by omega
          go_wp2
          exact bodyPost_ret (v := .tuple #[.int .i64 (m : Int), .bool true]) (by simp [results, Tryd.results11, go_sem]) rfl ⟨by rw [HX.out]; rfl, rfl⟩
        | cons c t =>
          obtain ⟨hlt, hc, ht⟩ := at_drop s k c t hl
          have hX := hr.out
          rw [hl] at hX
          unfold NP.wholeGo at hX
          have HT := hid'' ht
          clear hl ht hr
          have hki : (k : Int) < (s.size : Int) := by omega
          have kt := Lib.hid (fun W => kd.out c W)
          by_cases hd : WP.digit c = true
          · rw [if_pos hd] at hX
            obtain ⟨p1, p2⟩ := pow_step m k c hm.out (by omega) hd
            obtain ⟨d1, d2⟩ := NP.digit_dv hd
            have HP := hid'' p1
            have HXX := hid'' hX
            have HDV : Hid (NP.dv m c = m * 10 + (c.toNat - 48)) := rfl
            rw [hd] at kt
            clear p1 hX hd hm
            obtain ⟨x, hx⟩ : ∃ x, c.toNat = x := ⟨_, rfl⟩
            rw [hx] at d1 d2 HDV kt
            obtain ⟨y, rfl⟩ : ∃ y, x = 48 + y := ⟨x - 48, by omega⟩
            go_wp2_with (go_at_call 20; refine (kt.out _).mono ?_; rintro e w1 ⟨rfl, rfl⟩)
            go_round
            case rel => exact ⟨k + 1, m * 10 + y, by go_num, by go_num, by omega, hid'' (by have := HP.out; rw [HDV.out] at this; simpa using this), hid'' (by have := HXX.out; rw [HT.out]; rw [HDV.out] at this; simpa using this)⟩
            case measure => simp [intOf]; omega
          · rw [if_neg hd] at hX
            have HXX := hid'' hX
            have hdf : WP.digit c = false := by simpa using hd
            rw [hdf] at kt
            clear hX hd hm hdf
            go_wp2_with (go_at_call 20; refine (kt.out _).mono ?_; rintro e w1 ⟨rfl, rfl⟩)
            exact bodyPost_ret (v := .tuple #[.int .i64 0, .bool false]) (by simp [results, Tryd.results11, go_sem]) rfl ⟨by rw [← HXX.out]; rfl, rfl⟩
    · rw [if_neg (fun h => h6 h.2)] at hR
      subst hR
      have g6 : ¬ ((s.size : Int) < 1) := by omega
      have g7 : (6 : Int) < (s.size : Int) := by omega
      go_enter Tryd.func11, Tryd.ntmps11
      go_wp2
      exact bodyPost_ret (v := .tuple #[.int .i64 0, .bool false]) (by simp [results, Tryd.results11, go_sem]) rfl ⟨rfl, rfl⟩
  · rw [if_neg (fun h => h1 h.1)] at hR
    subst hR
    go_enter Tryd.func11, Tryd.ntmps11
    go_wp2
    exact bodyPost_ret (v := .tuple #[.int .i64 0, .bool false]) (by simp [results, Tryd.results11, go_sem]) rfl ⟨rfl, rfl⟩

def slen : Value → Nat
  | .string s => s.size
  | _ => 0

theorem trimB_last (l : List UInt8) (x : UInt8) (h : l.getLast? = some x) (hx : x ≠ 48) : Lib.trimRightB l 48 = l := by
  unfold Lib.trimRightB
  have e : l.reverse.head? = some x := by rw [List.head?_reverse]; exact h
  cases hr : l.reverse with
  | nil => rw [hr] at e; cases e
  | cons y t =>
    rw [hr] at e
    obtain rfl : y = x := by simpa using e
    have hb : (y == 48) = false := by simpa using hx
    rw [List.dropWhile_cons, hb, if_neg (by simp), ← hr, List.reverse_reverse]
theorem trimB_zero (l : List UInt8) : Lib.trimRightB (l ++ [48]) 48 = Lib.trimRightB l 48 := by
  unfold Lib.trimRightB
  rw [List.reverse_append]
  rfl

set_option maxRecDepth 20000 in
set_option maxHeartbeats 1000000 in
theorem rshow_any (n : Int) (h1 : -1000000000000 < n) (h2 : n < 1000000000000) (w : World) (htab : Lib.TabIs Tryd.prog w "internal/strconv.uint64pow10" .u64 Lib.pow10Tab) :
    Calls Tryd.prog 14 #[.int .i64 n] w fun e w' => e = .returned (.string ⟨(NP.text n).toArray⟩) ∧ Below w.heap.size w w' := by
  obtain ⟨u, hu⟩ : ∃ u, n.natAbs = u := ⟨_, rfl⟩
  have HT : Hid (NP.text n = NP.sg (decide (n < 0)) ++ (Lib.decDigits (u / 1000000) ++ NP.frac (u % 1000000))) := by
    show _ = _
    unfold NP.text
    rw [hu]
  have hq : u / 1000000 < 1000000 := by omega
  have hr : u % 1000000 < 1000000 := by omega
  obtain ⟨q, hqq⟩ : ∃ q, u / 1000000 = q := ⟨_, rfl⟩
  obtain ⟨r, hrr⟩ : ∃ r, u % 1000000 = r := ⟨_, rfl⟩
  rw [hqq, hrr] at HT
  rw [hqq] at hq
  rw [hrr] at hr
  obtain ⟨a, ha⟩ : ∃ a : ByteArray, (⟨(Lib.decDigits q).toArray⟩ : ByteArray) = a := ⟨_, rfl⟩
  have hgrow : ∀ W W' : World, (∃ k os, W' = Sort.grow (W.drewN k) os) → Below W.heap.size W W' := by
    rintro W W' ⟨k, os, rfl⟩
    exact below_grow W k os
  have k1 : Hid (Calls Tryd.prog 26 #[.int .i64 (q : Int), .int .i64 10] w fun e w' => e = .returned (.string a) ∧ Below w.heap.size w w') :=
    (Tryd.strconv_FormatInt_10 (q : Int) (by omega) (by omega) w htab).mono (by rintro e w' ⟨rfl, h⟩; exact ⟨by rw [Lib.itoa_nonneg, ← ha], hgrow _ _ h⟩)
  have HTB := Lib.hid htab
  have hal : a.size ≤ 6 := by rw [← ha, Lib.size_eq]; exact (NP.dec_len q hq).2
  by_cases h0 : r = 0
  · subst h0
    have HV : Hid ((⟨(NP.text n).toArray⟩ : ByteArray) = ⟨(NP.sg (decide (n < 0))).toArray⟩ ++ a) := by
      show _ = _
      rw [HT.out, ← ha]
      apply ByteArray.ext
      simp [NP.frac]
    obtain ⟨F, hFF⟩ : ∃ F : ByteArray, (⟨(NP.text n).toArray⟩ : ByteArray) = F := ⟨_, rfl⟩
    rw [hFF] at HV ⊢
    clear hFF HT ha htab
    by_cases hn : n < 0
    · have hd : decide (n < 0) = true := by simpa using hn
      rw [hd] at HV
      obtain ⟨v, hv⟩ : ∃ v, -n = v := ⟨_, rfl⟩
      have e1 : v / 1000000 = (q : Int) := by omega
      have e2 : v % 1000000 = 0 := by omega
      have e1' : v.tdiv 1000000 = (q : Int) := by rw [Int.tdiv_eq_ediv_of_nonneg (by omega)]; exact e1
      have e2' : v.tmod 1000000 = 0 := by rw [Int.tmod_eq_emod_of_nonneg (by omega)]; exact e2
      have hv0 : 0 ≤ v := by omega
      have hvb : v < 1000000000000 := by omega
      go_enter Tryd.func14, Tryd.ntmps14
      go_wp2_with (go_at_call 26; refine k1.out.mono ?_; rintro e w1 ⟨rfl, hb1⟩)
      go_ret
      exact ⟨ret_v (by rw [HV.out]; rfl), hb1⟩
    · have hd : decide (n < 0) = false := by simpa using hn
      rw [hd] at HV
      have e1 : n / 1000000 = (q : Int) := by omega
      have e2 : n % 1000000 = 0 := by omega
      have e1' : n.tdiv 1000000 = (q : Int) := by rw [Int.tdiv_eq_ediv_of_nonneg (by omega)]; exact e1
      have e2' : n.tmod 1000000 = 0 := by rw [Int.tmod_eq_emod_of_nonneg (by omega)]; exact e2
      go_enter Tryd.func14, Tryd.ntmps14
      go_wp2_with (go_at_call 26; refine k1.out.mono ?_; rintro e w1 ⟨rfl, hb1⟩)
      go_ret
      exact ⟨ret_v (by rw [HV.out]; rfl), hb1⟩
  · obtain ⟨t, e1, e2, -, -⟩ := NP.dec_seven r hr
    have HF : Hid (NP.frac r = 46 :: Lib.trimRightB t 48) := by
      show _ = _
      unfold NP.frac
      rw [if_neg h0, e1]; rfl
    obtain ⟨f, ef, -, f1, f6, -, fl⟩ := NP.frac_is r h0 hr
    obtain ⟨j0, ej, -⟩ := NP.trim_split t
    obtain ⟨G, hG⟩ : ∃ G, Lib.trimRightB t 48 = G := ⟨_, rfl⟩
    rw [hG] at HF ej
    obtain rfl : f = G := (List.cons.inj (ef.symm.trans HF.out)).2
    obtain ⟨g, hg⟩ : ∃ g, f.length = g := ⟨_, rfl⟩
    rw [hg] at f1 f6
    obtain ⟨d0, hd0⟩ : ∃ d : ByteArray, (⟨(49 :: t).toArray⟩ : ByteArray) = d := ⟨_, rfl⟩
    have k2 : Hid (∀ W, Below w.heap.size w W → Calls Tryd.prog 26 #[.int .i64 ((r : Int) + 1000000), .int .i64 10] W fun e w' => e = .returned (.string d0) ∧ Below W.heap.size W w') := fun W hb => by
      rw [show (r : Int) + 1000000 = ((1000000 + r : Nat) : Int) by omega]
      exact (Tryd.strconv_FormatInt_10 ((1000000 + r : Nat) : Int) (by omega) (by omega) W (tab_below HTB.out hb)).mono (by rintro e w' ⟨rfl, h⟩; exact ⟨by rw [Lib.itoa_nonneg, e1, ← hd0], hgrow _ _ h⟩)
    have hds : d0.size = 7 := by rw [← hd0, Lib.size_eq]; simp [e2]
    have hdx : (d0.extract 1 7).data.toList = t := by
      rw [Lib.extract_data, ← hd0]
      simp [List.take_of_length_le, e2]
    have HD0 : Hid ((d0.extract 1 7).data.toList = f ++ List.replicate j0 48 ∧ (d0.extract 1 7).size = g + j0) := by
      refine ⟨by rw [hdx]; exact ej, ?_⟩
      rw [Lib.size_eq, hdx, ej, List.length_append, List.length_replicate, hg]
    have HV : Hid (∀ D : ByteArray, D.data.toList = f → (⟨(NP.text n).toArray⟩ : ByteArray) = ⟨(NP.sg (decide (n < 0))).toArray⟩ ++ a ++ ⟨#[46]⟩ ++ D) := by
      intro D hD
      rw [HT.out, ← ha, HF.out]
      apply ByteArray.ext
      simp [← hD]
    have hfl : ∃ c, (∀ x, f.getLast? = some x → x = c) ∧ f.getLast? = some c ∧ c ≠ 48 := by
      cases hx : f.getLast? with
      | none => rw [List.getLast?_eq_none_iff.1 hx] at hg; simp at hg; omega
      | some c => exact ⟨c, fun x h => (Option.some.inj h).symm, rfl, fl c hx⟩
    obtain ⟨c0, -, hc0, hc48⟩ := hfl
    obtain ⟨F, hFF⟩ : ∃ F : ByteArray, (⟨(NP.text n).toArray⟩ : ByteArray) = F := ⟨_, rfl⟩
    rw [hFF] at HV ⊢
    have HG := Lib.hid hg
    have HC0 := Lib.hid hc0
    have hcI : ((c0.toNat : Int) == 48) = false := by
      rw [beq_eq_false_iff_ne]
      intro e
      exact hc48 (UInt8.toNat_inj.1 (show c0.toNat = 48 by omega))
    have h0' : ((r : Int) == 0) = false := by simpa using h0
    have hjg : g + j0 = 6 := by
      have := congrArg List.length ej
      rw [List.length_append, List.length_replicate, hg, e2] at this
      omega
    clear hFF HT ha htab hg hc0 hc48 ef HF e1 e2 hd0 hdx ej fl hgrow hG
    by_cases hn : n < 0
    · have hd : decide (n < 0) = true := by simpa using hn
      rw [hd] at HV
      obtain ⟨v, hv⟩ : ∃ v, -n = v := ⟨_, rfl⟩
      have e1' : v.tdiv 1000000 = (q : Int) := by rw [Int.tdiv_eq_ediv_of_nonneg (by omega)]; omega
      have e2' : v.tmod 1000000 = (r : Int) := by rw [Int.tmod_eq_emod_of_nonneg (by omega)]; omega
      have hv0 : 0 ≤ v := by omega
      have hvb : v < 1000000000000 := by omega
      have e1 : v / 1000000 = (q : Int) := by omega
      have e2 : v % 1000000 = (r : Int) := by omega
      go_enter Tryd.func14, Tryd.ntmps14
      go_wp2_with (first
        | (have v1 := u1; go_at_call 26; refine (k2.out _ hb1).mono ?_; rintro e w2 ⟨rfl, hb2⟩; have HB2 := Lib.hid (chain hb1 hb2))
        | (go_at_call 26; refine k1.out.mono ?_; rintro e w1 ⟨rfl, hb1⟩; have u1 : True := trivial))
      clear hb1 hb2
      rename World => wa
      go_loop [5] (fun d => ∃ (D : ByteArray) (j : Nat), d = .string D ∧ Hid (D.data.toList = f ++ List.replicate j 48) ∧ D.size = g + j ∧ j ≤ 6) (fun d => slen d)
      case atStart => exact ⟨d0.extract 1 7, j0, rfl, HD0.out.1, HD0.out.2, by omega⟩
      case round =>
        obtain ⟨D, j, rfl, hD, hz, hj⟩ := hrel
        cases j with
        | zero =>
          obtain ⟨y, rfl⟩ : ∃ y, g = y + 1 := ⟨g - 1, by omega⟩
          have hz' : D.size = y + 1 := by omega
          have hc : ∀ h, D[y]'h = c0 := fun h => by
            have e := HC0.out
            have hD' : D.data.toList = f := by have := hD.out; simpa using this
            rw [← hD', List.getLast?_eq_getElem?, ← Lib.size_eq, hz', Nat.add_sub_cancel, List.getElem?_eq_getElem (by rw [← Lib.size_eq]; exact h)] at e
            exact Option.some.inj e
          have HDf : Hid (D.data.toList = f) := by have := hD.out; show _ = _; simpa using this
          clear hz hD
          go_wp2
          go_ret
          exact ⟨ret_v (by rw [HV.out D HDf.out]; rfl), HB2.out⟩
        | succ j =>
          have hz' : D.size = (g + j) + 1 := by omega
          obtain ⟨y, hy⟩ : ∃ y, g + j = y := ⟨_, rfl⟩
          rw [hy] at hz'
          have hc : ∀ h, D[y]'h = 48 := fun h => by
            have e : D.data.toList[y]? = some 48 := by
              rw [hD.out, List.getElem?_append_right (by rw [HG.out]; omega), HG.out, List.getElem?_replicate, if_pos (by omega)]
            rw [List.getElem?_eq_getElem (by rw [← Lib.size_eq]; exact h)] at e
            exact Option.some.inj e
          have HX : Hid ((D.extract 0 y).data.toList = f ++ List.replicate j 48 ∧ (D.extract 0 y).size = g + j) := by
            have e : (D.extract 0 y).data.toList = f ++ List.replicate j 48 := by
              rw [Lib.extract_data, hD.out, List.drop_zero, List.replicate_succ', ← List.append_assoc, Nat.sub_zero]
              rw [List.take_left' (by rw [List.length_append, HG.out, List.length_replicate]; exact hy)]
            exact ⟨e, by rw [Lib.size_eq, e, List.length_append, HG.out, List.length_replicate]⟩
          clear hz hD
          go_wp2
          go_round
          case rel => exact ⟨D.extract 0 y, j, rfl, HX.out.1, HX.out.2, by omega⟩
          case measure => simp [slen]; omega
    · have hd : decide (n < 0) = false := by simpa using hn
      rw [hd] at HV
      have e1 : n / 1000000 = (q : Int) := by omega
      have e2 : n % 1000000 = (r : Int) := by omega
      have e1' : n.tdiv 1000000 = (q : Int) := by rw [Int.tdiv_eq_ediv_of_nonneg (by omega)]; exact e1
      have e2' : n.tmod 1000000 = (r : Int) := by rw [Int.tmod_eq_emod_of_nonneg (by omega)]; exact e2
      go_enter Tryd.func14, Tryd.ntmps14
      go_wp2_with (first
        | (have v1 := u1; go_at_call 26; refine (k2.out _ hb1).mono ?_; rintro e w2 ⟨rfl, hb2⟩; have HB2 := Lib.hid (chain hb1 hb2))
        | (go_at_call 26; refine k1.out.mono ?_; rintro e w1 ⟨rfl, hb1⟩; have u1 : True := trivial))
      clear hb1 hb2
      rename World => wa
      go_loop [5] (fun d => ∃ (D : ByteArray) (j : Nat), d = .string D ∧ Hid (D.data.toList = f ++ List.replicate j 48) ∧ D.size = g + j ∧ j ≤ 6) (fun d => slen d)
      case atStart => exact ⟨d0.extract 1 7, j0, rfl, HD0.out.1, HD0.out.2, by omega⟩
      case round =>
        obtain ⟨D, j, rfl, hD, hz, hj⟩ := hrel
        cases j with
        | zero =>
          obtain ⟨y, rfl⟩ : ∃ y, g = y + 1 := ⟨g - 1, by omega⟩
          have hz' : D.size = y + 1 := by omega
          have hc : ∀ h, D[y]'h = c0 := fun h => by
            have e := HC0.out
            have hD' : D.data.toList = f := by have := hD.out; simpa using this
            rw [← hD', List.getLast?_eq_getElem?, ← Lib.size_eq, hz', Nat.add_sub_cancel, List.getElem?_eq_getElem (by rw [← Lib.size_eq]; exact h)] at e
            exact Option.some.inj e
          have HDf : Hid (D.data.toList = f) := by have := hD.out; show _ = _; simpa using this
          clear hz hD
          go_wp2
          go_ret
          exact ⟨ret_v (by rw [HV.out D HDf.out]; rfl), HB2.out⟩
        | succ j =>
          have hz' : D.size = (g + j) + 1 := by omega
          obtain ⟨y, hy⟩ : ∃ y, g + j = y := ⟨_, rfl⟩
          rw [hy] at hz'
          have hc : ∀ h, D[y]'h = 48 := fun h => by
            have e : D.data.toList[y]? = some 48 := by
              rw [hD.out, List.getElem?_append_right (by rw [HG.out]; omega), HG.out, List.getElem?_replicate, if_pos (by omega)]
            rw [List.getElem?_eq_getElem (by rw [← Lib.size_eq]; exact h)] at e
            exact Option.some.inj e
          have HX : Hid ((D.extract 0 y).data.toList = f ++ List.replicate j 48 ∧ (D.extract 0 y).size = g + j) := by
            have e : (D.extract 0 y).data.toList = f ++ List.replicate j 48 := by
              rw [Lib.extract_data, hD.out, List.drop_zero, List.replicate_succ', ← List.append_assoc, Nat.sub_zero]
              rw [List.take_left' (by rw [List.length_append, HG.out, List.length_replicate]; exact hy)]
            exact ⟨e, by rw [Lib.size_eq, e, List.length_append, HG.out, List.length_replicate]⟩
          clear hz hD
          go_wp2
          go_round
          case rel => exact ⟨D.extract 0 y, j, rfl, HX.out.1, HX.out.2, by omega⟩
          case measure => simp [slen]; omega

end Go.Proofs.YtepilofedebmeaaDoor

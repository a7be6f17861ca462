/-
  The program's writing of a number: walked whole.
-/
import Derived.Test.YtepilofedebmeaaDoorNumUint
namespace Go.Proofs.YtepilofedebmeaaDoor
open Go.RowKit

theorem tab_below {w w' : World} (h : Lib.TabIs Tryd.prog w "internal/strconv.uint64pow10" .u64 Lib.pow10Tab) (hb : Below w.heap.size w w') : Lib.TabIs Tryd.prog w' "internal/strconv.uint64pow10" .u64 Lib.pow10Tab := by
  have hg : Tryd.prog.globalNamed "internal/strconv.uint64pow10" = some 2 := by kernel_rfl
  unfold Lib.TabIs World.var? at h ⊢
  rw [hg] at h ⊢
  simp only [Option.bind_some] at h ⊢
  cases hx : w.heap[2]? with
  | none => rw [hx] at h; cases h
  | some o =>
    rw [hb.block _ (Array.getElem?_eq_some_iff.1 hx).1]
    exact h

set_option maxRecDepth 20000 in
theorem fraction_any (r : Nat) (hr : r < 1000000) (w : World) (htab : Lib.TabIs Tryd.prog w "internal/strconv.uint64pow10" .u64 Lib.pow10Tab) :
    Calls Tryd.prog 25 #[.int .u64 r] w fun e w' => e = .returned (.string ⟨(NP.frac r).toArray⟩) ∧ Below w.heap.size w w' := by
  by_cases h0 : r = 0
  · subst h0
    go_enter Tryd.func25, Tryd.ntmps25
    go_wp2
    go_ret
    exact ⟨rfl, Below.refl _ _⟩
  · have k1 := Lib.hid (uint_any (1000000 + r) (by omega) w htab)
    obtain ⟨t, e1, e2, -, -⟩ := NP.dec_seven r hr
    have HF : Hid (NP.frac r = 46 :: Lib.trimRightB t 48) := by
      show _ = _
      unfold NP.frac
      rw [if_neg h0, e1]; rfl
    rw [e1] at k1
    obtain ⟨d, hd⟩ : ∃ d : ByteArray, (⟨(49 :: t).toArray⟩ : ByteArray) = d := ⟨_, rfl⟩
    rw [hd] at k1
    have hds : d.size = 7 := by rw [← hd, Lib.size_eq]; simp [e2]
    have hdx : (d.extract 1 7).data.toList = t := by
      rw [Lib.extract_data, ← hd]
      simp [List.take_of_length_le, e2]
    have k2 : Hid (∀ W, Calls Tryd.prog 32 #[.string (d.extract 1 7), .string ⟨#[48]⟩] W fun e w' => e = .returned (.string ⟨(Lib.trimRightB t 48).toArray⟩) ∧ w' = W) := fun W => by
      have := Tryd.strings_TrimRight_one (d.extract 1 7) 48 (by decide) W (by rw [Lib.size_eq, hdx, e2]; omega)
      rw [hdx] at this
      exact this
    obtain ⟨f, hf⟩ : ∃ f : ByteArray, (⟨(Lib.trimRightB t 48).toArray⟩ : ByteArray) = f := ⟨_, rfl⟩
    rw [hf] at k2
    have hfs : f.size ≤ 6 := by
      obtain ⟨k, h5, -⟩ := NP.trim_split t
      have := congrArg List.length h5
      rw [List.length_append] at this
      rw [← hf, Lib.size_eq]
      show (Lib.trimRightB t 48).length ≤ 6
      omega
    have HV : Hid ((⟨(NP.frac r).toArray⟩ : ByteArray) = ⟨#[46]⟩ ++ f) := by
      show _ = _
      rw [HF.out, ← hf]
      apply ByteArray.ext
      simp
    obtain ⟨F, hFF⟩ : ∃ F : ByteArray, (⟨(NP.frac r).toArray⟩ : ByteArray) = F := ⟨_, rfl⟩
    rw [hFF] at HV ⊢
    clear hFF HF hd hdx hf e1 e2 htab
    have h0' : ((r : Int) == 0) = false := by simpa using h0
    go_enter Tryd.func25, Tryd.ntmps25
    go_wp2_with (first
      | (go_at_call 24; refine k1.out.mono ?_; rintro e w1 ⟨rfl, hb⟩)
      | (go_at_call 32; refine (k2.out _).mono ?_; rintro e w2 ⟨rfl, rfl⟩))
    go_ret
    exact ⟨ret_v (by rw [HV.out]; rfl), hb⟩

set_option maxRecDepth 20000 in
theorem show_any (n : Int) (h1 : -1000000000000 < n) (h2 : n < 1000000000000) (w : World) (htab : Lib.TabIs Tryd.prog w "internal/strconv.uint64pow10" .u64 Lib.pow10Tab) :
    Calls Tryd.prog 13 #[.int .i64 n] w fun e w' => e = .returned (.string ⟨(NP.text n).toArray⟩) ∧ Below w.heap.size w w' := by
  obtain ⟨u, hu⟩ : ∃ u, n.natAbs = u := ⟨_, rfl⟩
  have HT : Hid (NP.text n = NP.sg (decide (n < 0)) ++ (Lib.decDigits (u / 1000000) ++ NP.frac (u % 1000000))) := by
    show _ = _
    unfold NP.text
    rw [hu]
  have hq : u / 1000000 < 1000000 := by omega
  have hr : u % 1000000 < 1000000 := by omega
  obtain ⟨q, hqq⟩ : ∃ q, u / 1000000 = q := ⟨_, rfl⟩
  obtain ⟨r, hrr⟩ : ∃ r, u % 1000000 = r := ⟨_, rfl⟩
  rw [hqq, hrr] at HT
  rw [hqq] at hq
  rw [hrr] at hr
  have k1 := Lib.hid (uint_any q (by omega) w htab)
  have HTB := Lib.hid htab
  have k2 : Hid (∀ W, Below w.heap.size w W → Calls Tryd.prog 25 #[.int .u64 r] W fun e w' => e = .returned (.string ⟨(NP.frac r).toArray⟩) ∧ Below W.heap.size W w') := fun W hb => fraction_any r hr W (tab_below HTB.out hb)
  have hl1 := (NP.dec_len q hq).2
  have hl2 : (NP.frac r).length ≤ 7 := by
    by_cases h0 : r = 0
    · subst h0; simp [NP.frac]
    · obtain ⟨f, e, -, -, h6, -⟩ := NP.frac_is r h0 hr
      rw [e]; simpa using h6
  obtain ⟨a, ha⟩ : ∃ a : ByteArray, (⟨(Lib.decDigits q).toArray⟩ : ByteArray) = a := ⟨_, rfl⟩
  obtain ⟨b, hb⟩ : ∃ b : ByteArray, (⟨(NP.frac r).toArray⟩ : ByteArray) = b := ⟨_, rfl⟩
  rw [ha] at k1
  rw [hb] at k2
  have hal : a.size ≤ 6 := by rw [← ha, Lib.size_eq]; exact hl1
  have hbl : b.size ≤ 7 := by rw [← hb, Lib.size_eq]; exact hl2
  have HV : Hid ((⟨(NP.text n).toArray⟩ : ByteArray) = ⟨(NP.sg (decide (n < 0))).toArray⟩ ++ a ++ b) := by
    show _ = _
    rw [HT.out, ← ha, ← hb]
    apply ByteArray.ext
    simp
  obtain ⟨F, hFF⟩ : ∃ F : ByteArray, (⟨(NP.text n).toArray⟩ : ByteArray) = F := ⟨_, rfl⟩
  rw [hFF] at HV ⊢
  clear hFF HT hb ha hl1 hl2 htab
  by_cases hn : n < 0
  · have hw : IntKind.u64.wrap (-IntKind.u64.wrap n) = (u : Int) := by rw [IntKind.wrap_u64, IntKind.wrap_u64]; omega
    have hd : decide (n < 0) = true := by simpa using hn
    rw [hd] at HV
    have e1 : (u : Int) / 1000000 = (q : Int) := by omega
    have e2 : (u : Int) % 1000000 = (r : Int) := by omega
    go_enter Tryd.func13, Tryd.ntmps13
    go_wp2_with (first
      | (go_at_call 24; refine k1.out.mono ?_; rintro e w1 ⟨rfl, hb1⟩)
      | (go_at_call 25; refine (k2.out _ hb1).mono ?_; rintro e w2 ⟨rfl, hb2⟩))
    go_ret
    exact ⟨ret_v (by rw [HV.out]; rfl), chain hb1 hb2⟩
  · have hw : IntKind.u64.wrap n = (u : Int) := by rw [IntKind.wrap_u64]; omega
    have hd : decide (n < 0) = false := by simpa using hn
    rw [hd] at HV
    have e1 : (u : Int) / 1000000 = (q : Int) := by omega
    have e2 : (u : Int) % 1000000 = (r : Int) := by omega
    go_enter Tryd.func13, Tryd.ntmps13
    go_wp2_with (first
      | (go_at_call 24; refine k1.out.mono ?_; rintro e w1 ⟨rfl, hb1⟩)
      | (go_at_call 25; refine (k2.out _ hb1).mono ?_; rintro e w2 ⟨rfl, hb2⟩))
    go_ret
    exact ⟨ret_v (by rw [HV.out]; rfl), chain hb1 hb2⟩

end Go.Proofs.YtepilofedebmeaaDoor

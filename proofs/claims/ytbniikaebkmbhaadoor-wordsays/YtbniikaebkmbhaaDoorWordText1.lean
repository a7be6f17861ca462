/-
  Texts made of few numbers: small numbers as text: walked over the program.
-/
import Derived.Deep.CutBlock
import Derived.Test.YtbniikaebkmbhaaDoorShelf
import Derived.Test.YtbniikaebkmbhaaDoorWordSeq
import Derived.Test.YtbniikaebkmbhaaDoorWordErrB
namespace Go.Proofs.YtbniikaebkmbhaaDoor
open Go.RowKit

theorem dec_len (i : Nat) (h : i < 100) : (Lib.decDigits i).length ≤ 2 := by
  have : ∀ i : Fin 100, (Lib.decDigits i.val).length ≤ 2 := by decide +kernel
  exact this ⟨i, h⟩

theorem itoa_any (n : Int) (h0 : 0 ≤ n) (h1 : n < 100) (w : World) :
    Calls Tryd.prog 13 #[.int .i64 n] w fun e w' => ∃ T : ByteArray, e = .returned (.string T) ∧ T.size ≤ 2 ∧ w' = w := by
  obtain ⟨i, rfl⟩ := Int.eq_ofNat_of_zero_le h0
  refine (Tryd.strconv_Itoa_small i (by omega) w).mono ?_
  rintro e w' ⟨rfl, rfl⟩
  exact ⟨_, rfl, by rw [size_mk]; exact dec_len i (by omega), rfl⟩

end Go.Proofs.YtbniikaebkmbhaaDoor

/-
  Contract of the laws' known: the document's example holds.
-/
import Derived.Test.YtopjhhpbjpfbfaaLaw1
namespace Go.Proofs.Ytopjhhpbjpfbfaa
open Go.RowKit Plait
set_option linter.unusedVariables false

theorem known_any (w : World) :
    Calls Try.prog 11 #[] w fun e w' => e = .returned (.bool true) ∧ Below w.heap.size w w' := by
  have h1 : clean [48, 49, 120, 49] = [48, 49] := by decide
  have h2 : bitsI 5 3 = [49, 48, 49] := by decide
  go_enter Try.func11, Try.ntmps11
  go_wp2_with fail
  refine (clean_any [48, 49, 120, 49] _ (by simp)).mono ?_
  rintro e w2 ⟨rfl, hb⟩
  rw [h1]
  go_wp2_with fail
  refine (bits_any 5 3 _).mono ?_
  rintro e w3 ⟨rfl, hb2⟩
  rw [h2]
  go_wp2
  go_ret
  exact ⟨rfl, hb.trans (hb2.mono hb.size)⟩

end Go.Proofs.Ytopjhhpbjpfbfaa

/-
  Contracts of the reference's symbols: the same answers as package sym's, for every input; nothing that was in memory is changed.
-/
import Derived.Test.YtfpbijcgbknklaaSym6
import Derived.RegionTactic
namespace Go.Proofs.Ytfpbijcgbknklaa
open Go.RowKit Plait
set_option maxRecDepth 100000
set_option linter.unusedVariables false

@[go_sem] theorem app_mk (x y : List UInt8) : (⟨x.toArray⟩ ++ ⟨y.toArray⟩ : ByteArray) = ⟨(x ++ y).toArray⟩ := ByteArray.mk_append_mk x y

theorem byte_ne (c : UInt8) (n : Nat) (hn : n < 256) (h : c ≠ UInt8.ofNat n) : ((c.toNat : Int) == (n : Int)) = false := by
  rw [beq_eq_false_iff_ne]
  intro e
  apply h
  apply UInt8.toNat_inj.1
  simp [UInt8.toNat_ofNat', Nat.mod_eq_of_lt hn]
  omega

/-- The reference's loop: where it stands, and that all bytes ahead of it are bits. -/
def RCleanAt (l : List UInt8) (i : Value) : Prop := ∃ k : Nat, k ≤ l.length ∧ i = .int .i64 k ∧ ∀ c ∈ l.take k, bitB c = true

end Go.Proofs.Ytfpbijcgbknklaa

/-
  Contract of sym.Turn: for every text and place; nothing that was in memory is changed.
-/
import Derived.Test.YtfpbijcgbknklaaSym2
import Derived.Laws.IdiomStrings
namespace Go.Proofs.Ytfpbijcgbknklaa
open Go.RowKit Plait
set_option maxRecDepth 100000
set_option linter.unusedVariables false

theorem turn_out (l : List UInt8) (i : Int) (h : i < 0 ∨ (l.length : Int) ≤ i) : turn l i = l := by
  unfold turn
  rw [if_neg (by omega)]

theorem turn_in (l : List UInt8) (k : Nat) (h : k < l.length) : turn l (k : Int) = l.set k (other l[k]) := by
  unfold turn
  rw [if_pos (by omega)]
  simp [h]

theorem addr_add (b o j : Nat) : (⟨b, o, none⟩ : Addr).add j = ⟨b, o + j, none⟩ := by
  unfold Addr.add
  by_cases hj : j = 0 <;> simp [hj]

/-- A row of bytes, made out of a text: what was in memory stays. -/
theorem bytes_row (l : List UInt8) (w : World) : ∃ (C : Array Value) (cap : Nat), l.length ≤ C.size ∧ (∀ k (hk : k < l.length), C[k]? = some (.int .u8 (l[k].toNat : Int))) ∧
    (convert 9 41 (.string ⟨l.toArray⟩)).run Try.prog w = .ok (.slice (some ⟨w.heap.size, 0, none⟩) l.length cap) (w.drew.alloc (.cells C 5 (C.size, C.size + 1))) := by
  have h := run_bytes_of_string (P := Try.prog) w 9 41 5 ⟨l.toArray⟩ Try.underlying9 Try.underlying41 Try.underlying5
  rw [size_mk] at h
  refine ⟨_, _, ?_, ?_, h⟩
  · simp [bytesRow]
  · intro k hk
    have := bytesRow_at ⟨l.toArray⟩ (grownCap w l.length 0 5) k (by simpa using hk)
    rw [this]
    simp

end Go.Proofs.Ytfpbijcgbknklaa

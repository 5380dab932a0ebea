/-
  A slice of bytes that came in, as it lies in memory.
-/
import Derived.Test.YtaekdfjecokpmaaBase
namespace Go.Proofs.Ytaekdfjecokpmaa
open Go.RowKit
set_option maxRecDepth 100000
set_option linter.unusedVariables false

def RowB (w : World) (a : Option Addr) (bs : List UInt8) : Prop :=
  bs.length ≤ 9223372036854775807 ∧
  (bs = [] ∨ ∃ b off : Nat, a = some ⟨b, off, none⟩ ∧ b < w.heap.size ∧ ∀ i (h : i < bs.length), w.cell? ⟨b, off + i, none⟩ = some (.int .u8 bs[i].toNat))

theorem RowB.later {w w1 : World} {a : Option Addr} {bs : List UInt8} (h : RowB w a bs) (hb : Below w.heap.size w w1) : RowB w1 a bs := by
  obtain ⟨h1, h3⟩ := h
  refine ⟨h1, ?_⟩
  rcases h3 with h3 | ⟨b, off, e, hlt, hc⟩
  · exact .inl h3
  · exact .inr ⟨b, off, e, Nat.lt_of_lt_of_le hlt hb.size, fun i hi => by rw [hb.cell (p := ⟨b, off + i, none⟩) hlt]; exact hc i hi⟩

/-- The k-th byte, where it lies. -/
theorem RowB.get {w : World} {a : Option Addr} {bs : List UInt8} (h : RowB w a bs) (k : Nat) (hk : k < bs.length) :
    ∃ b off : Nat, a = some ⟨b, off, none⟩ ∧ b < w.heap.size ∧ w.cell? ⟨b, off + k, none⟩ = some (.int .u8 bs[k].toNat) := by
  obtain ⟨_, h3⟩ := h
  rcases h3 with h3 | ⟨b, off, e, hlt, hc⟩
  · rw [h3] at hk; simp at hk
  · exact ⟨b, off, e, hlt, hc k hk⟩

theorem rowB_nil (w : World) : ∃ bs : List UInt8, 0 = bs.length ∧ RowB w none bs := ⟨[], rfl, by simp, .inl rfl⟩

end Go.Proofs.Ytaekdfjecokpmaa

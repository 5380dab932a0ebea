/-
  What the walks over steps use: one byte as a text; a relay step by step.
-/
import Derived.Test.YtaekdfjecokpmaaLaw70
import Derived.Test.YtaekdfjecokpmaaLa3
import Derived.Laws.IdiomStrings
import Derived.Deep.RegionHeld3
namespace Go.Proofs.Ytaekdfjecokpmaa
open Go.RowKit Plait
set_option maxRecDepth 100000
set_option linter.unusedVariables false

theorem one_byte (c : UInt8) : ∀ (W : World), (convert 28 9 (.slice (some ⟨W.heap.size, 0, none⟩) 1 1)).run Try.prog (W.alloc (.cells #[.int .u8 c.toNat] 5)) = .ok (.string ⟨#[c]⟩) (W.alloc (.cells #[.int .u8 c.toNat] 5)) := fun W => by
  have h := run_convert_bytes_back (P := Try.prog) (W.alloc (.cells #[.int .u8 c.toNat] 5)) 28 9 5 ⟨W.heap.size, 0, none⟩ 1 [c] Try.underlying28 Try.underlying5 Try.underlying9 (fun j hj => by
    have : j = 0 := by simpa using hj
    subst this
    rw [addr_at, World.cell?_alloc_mark]
    rfl)
  simpa using h

/-- A relay of the law's own, behind i steps. -/
def StepsAt (cmp : Bool) (a b : List UInt8) (g : Nat) (i : Nat) (w : World) (s : Value) (w' : World) : Prop :=
  ∃ (o v : Bool) (l : List UInt8), s = .string ⟨l.toArray⟩ ∧ RunAt cmp a b i o v l ∧ Blk w' g 45 #[.bool cmp, .bool o] ∧ Below w.heap.size w w'

theorem dot_no {d : UInt8} (h : d ≠ 46) : ((d.toNat : Int) != 46) = true := by
  have := byte_ne d 46 (by decide) h
  rw [bne, show ((46 : Int) = ((46 : Nat) : Int)) from rfl, this]; rfl
theorem dot_no' {d : UInt8} (h : d ≠ 46) : ((d.toNat : Int) == 46) = false := byte_ne d 46 (by decide) h

end Go.Proofs.Ytaekdfjecokpmaa

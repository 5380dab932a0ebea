/-
  Contracts of package ring, third part: the owners struck out of a walk; ways.
-/
import Derived.Test.YtbghpkdkfbpmeaaDev7
namespace Go.Proofs.Ytbghpkdkfbpmeaa
open Go.RowKit Plait
set_option maxRecDepth 100000
set_option linter.unusedVariables false

theorem Row.farCell {w : World} {a : Option Addr} {zs : List Int} (h : Row w a zs) {base g : Nat} (i : Nat) (u : Value) (hne : ∀ x, a = some x → x.block < base) (hg : base ≤ g) : Row (w.setCell ⟨g, i, none⟩ u) a zs :=
  h.far g i u fun x hx => by have := hne x hx; omega

/-- The loop that strikes out. -/
def StrikeAt (zs os : List Int) (O : Option Addr) (base g : Nat) (w : World) (a b : Value) (w' : World) : Prop :=
  ∃ (i j : Nat) (ys : List Int), a = .int .i64 i ∧ b = .int .i64 j ∧ Kept zs os ys i j ∧ Lies w' g ys ∧ Row w' O os ∧ Below base w w'

theorem lastI_in (n : Int) (os : List Int) (d : Int) (h : 0 < os.length) (ho : ∀ z ∈ os, 0 ≤ z ∧ z < n) : 0 ≤ lastI os d ∧ lastI os d < n := by
  by_cases hd : d < 0
  · rw [← lastI_neg os d hd h]
    exact ho _ (List.getElem_mem h)
  · have hl : os.length - 1 < os.length := by omega
    rw [← lastI_pos os d hd hl]
    exact ho _ (List.getElem_mem hl)

end Go.Proofs.Ytbghpkdkfbpmeaa

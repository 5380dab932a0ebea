/-
  Classes of worlds by what holds on in them; facts that hold on where a call makes memory alone.
-/
import Derived.Test.YtbghpkdkfbpmeaaClass
import Derived.Test.YtbghpkdkfbpmeaaFr2
namespace Go.Proofs.Ytbghpkdkfbpmeaa
open Go.RowKit Plait
set_option maxRecDepth 100000
set_option linter.unusedVariables false

/-- A fact that holds on where all that lay is as it was. -/
def Stable (R : World → Prop) : Prop := ∀ W W', R W → Below W.heap.size W W' → R W'

theorem stable_and {R S : World → Prop} (h : Stable R) (k : Stable S) : Stable fun W => R W ∧ S W := fun W W' ⟨a, b⟩ hb => ⟨h W W' a hb, k W W' b hb⟩
theorem stable_below (w : World) : Stable fun W => Below w.heap.size w W := fun W W' a hb => a.trans (hb.mono a.size)
theorem stable_blk (g : Nat) (t : TypeId) (cs : Array Value) : Stable fun W => Blk W g t cs := fun W W' a hb => a.later hb
theorem stable_row (a : Option Addr) (zs : List Int) : Stable fun W => Row W a zs := fun W W' h hb => h.later hb
theorem stable_rowT (a : Option Addr) (ts : List It) : Stable fun W => RowT W a ts := fun W W' h hb => h.later hb

theorem class_any (w : World) {R : World → Prop} (hR : Stable R) (h : R w) : ∃ (I : Type) (F : I → World) (i0 : I), F i0 = w.drew ∧ (∀ i, R (F i)) ∧ (∀ i w', Below (F i).heap.size (F i) w' → ∃ j, w' = F j) :=
  class_of w R (hR w _ h (Below.refl _ _).drew) hR

end Go.Proofs.Ytbghpkdkfbpmeaa

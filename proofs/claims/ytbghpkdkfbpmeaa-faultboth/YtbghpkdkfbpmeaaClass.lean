/-
  A region that draws its order, walked once in a class of worlds: every operation yields one value in all of them, and a call leaves another of them.
-/
import Derived.Test.YtbghpkdkfbpmeaaBase
namespace Go.Proofs.Ytbghpkdkfbpmeaa
open Go.RowKit
set_option maxRecDepth 100000
set_option linter.unusedVariables false

theorem wp_region_class {P : Program} {id : Nat} {Q : Exit → Act → World → Prop} {a : Act} {w : World} {l : List Oper} {I : Type} (F : I → World) (i0 : I) (h0 : F i0 = w.drew) (hm : P.follows .mixedOrders = true) (hB : Region.lexB .any l.toArray = true)
    (h : wpQuiet P l.toArray (fun w' => ∃ i, w' = F i) (fun a' => ∀ w', (∃ i, w' = F i) → Q .normal a' w') l a) : (Code.region id l.toArray true).wp P Q a w :=
  wp_region_quiet (C := fun w' => ∃ i, w' = F i) hm hB ⟨i0, h0.symm⟩ (by simpa using h)

/-- A call by a contract that makes memory alone. -/
theorem class_call {P : Program} {f : FuncId} {args : Array Value} {I : Type} {F : I → World} (hcl : ∀ i w', Below (F i).heap.size (F i) w' → ∃ j, w' = F j) {v : Value} {i : I}
    (h : Calls P f args (F i) fun e w' => e = .returned v ∧ Below (F i).heap.size (F i) w') : Calls P f args (F i) fun e w' => e = .returned v ∧ ∃ j, w' = F j :=
  h.mono fun _ _ ⟨he, hb⟩ => ⟨he, hcl _ _ hb⟩
/-- By one that leaves the world. -/
theorem class_same {P : Program} {f : FuncId} {args : Array Value} {I : Type} {F : I → World} {v : Value} {i : I}
    (h : Calls P f args (F i) fun e w' => e = .returned v ∧ F i = w') : Calls P f args (F i) fun e w' => e = .returned v ∧ ∃ j, w' = F j :=
  h.mono fun _ _ ⟨he, hb⟩ => ⟨he, i, hb.symm⟩

/-- The worlds behind w in which all that lay in it is as it was. -/
theorem class_of (w : World) (R : World → Prop) (h : R w.drew) (hR : ∀ W W', R W → Below W.heap.size W W' → R W') : ∃ (I : Type) (F : I → World) (i0 : I), F i0 = w.drew ∧ (∀ i, R (F i)) ∧ (∀ i w', Below (F i).heap.size (F i) w' → ∃ j, w' = F j) :=
  ⟨{ W : World // R W }, Subtype.val, ⟨w.drew, h⟩, rfl, fun i => i.2, fun i w' hb => ⟨⟨w', hR _ _ i.2 hb⟩, rfl⟩⟩

end Go.Proofs.Ytbghpkdkfbpmeaa

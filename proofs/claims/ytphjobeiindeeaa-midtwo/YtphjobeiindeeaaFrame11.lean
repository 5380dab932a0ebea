/-
  What the frames of laws over numbers and rows of numbers use.
-/
import Derived.Test.YtphjobeiindeeaaRows
import Derived.Test.YtphjobeiindeeaaBase
import Derived.ProofKit
import Derived.OpenShut
import Derived.ShutString
import Derived.ChangeOld
import Derived.Lib.SmallJoins
namespace Go.Proofs.Ytphjobeiindeeaa
open Go.ChangeShapes Go.WideShapes Go.ChangeAt Go.RowKit Go.Joins Go.Deep
set_option maxRecDepth 100000
set_option linter.unusedVariables false

theorem own : ownKnob Try.prog.godebug = none := by kernel_rfl
theorem laidOut : laidOutB Try.prog = true := by kernel_rfl

theorem wf_lo {x : Int} (h : (Lit.int .i64 x).wf = true) : -9223372036854775808 ≤ x := (bounds_i64 h).1
theorem wf_hi {x : Int} (h : (Lit.int .i64 x).wf = true) : x ≤ 9223372036854775807 := (bounds_i64 h).2

theorem row_of {w : World} {x : Addr} {len cap : Nat} {zs : List Int} (hl : len ≤ cap) (hm : cap ≤ maxLen) (hz : len ≤ zs.length)
    (hcell : ∀ i, i < zs.length → w.cell? (x.add i) = some (.int .i64 (zs.getD i 0))) (hwz : ∀ n ∈ zs, (Lit.int .i64 n).wf = true) :
    ∃ ys : List Int, len = ys.length ∧ Row w (some x) ys := by
  have hlen : (zs.take len).length = len := by rw [List.length_take]; omega
  refine ⟨zs.take len, hlen.symm, by rw [hlen]; unfold maxLen at hm; omega, fun z hz' => bounds_i64 (hwz z (List.mem_of_mem_take hz')), ?_⟩
  by_cases h0 : len = 0
  · left
    rw [h0]
    rfl
  · right
    obtain ⟨b, off, spot⟩ := x
    have hc := hcell 0 (by omega)
    have hspot : spot = none := by simpa [Addr.add] using World.cell?_spot hc
    subst hspot
    rw [addr_at] at hc
    refine ⟨b, off, rfl, World.block_lt_of_cell? _ _ hc, fun i hi => ?_⟩
    have hi' : i < zs.length := by rw [hlen] at hi; omega
    have := hcell i hi'
    rw [addr_at] at this
    rw [this, List.getElem_take, List.getD_eq_getElem?_getD, List.getElem?_eq_getElem hi']
    rfl

theorem row_nil (w : World) : ∃ zs : List Int, 0 = zs.length ∧ Row w none zs := ⟨[], rfl, Row.empty _ _⟩

end Go.Proofs.Ytphjobeiindeeaa

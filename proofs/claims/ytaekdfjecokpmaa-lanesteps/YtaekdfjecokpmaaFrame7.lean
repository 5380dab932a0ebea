/-
  What the frames use for a slice of bytes.
-/
import Derived.Test.YtaekdfjecokpmaaFrame
import Derived.Test.YtaekdfjecokpmaaByt
namespace Go.Proofs.Ytaekdfjecokpmaa
open Go.RowKit
set_option maxRecDepth 100000
set_option linter.unusedVariables false

theorem rowB_of {w : World} {x : Addr} {len cap : Nat} {zs : List Int} (hl : len ≤ cap) (hm : cap ≤ maxLen) (hz : len ≤ zs.length)
    (hcell : ∀ i, i < zs.length → w.cell? (x.add i) = some (.int .u8 (zs.getD i 0))) (hwz : ∀ n ∈ zs, (Lit.int .u8 n).wf = true) :
    ∃ bs : List UInt8, len = bs.length ∧ RowB w (some x) bs := by
  have hlen : (zs.take len).length = len := by rw [List.length_take]; omega
  refine ⟨(zs.take len).map (fun z => UInt8.ofNat z.toNat), by rw [List.length_map, hlen], by rw [List.length_map, hlen]; unfold maxLen at hm; omega, ?_⟩
  by_cases h0 : len = 0
  · left
    rw [h0]
    rfl
  · right
    obtain ⟨b, off, spot⟩ := x
    have hc := hcell 0 (by omega)
    have hspot : spot = none := by simpa [Addr.add] using World.cell?_spot hc
    subst hspot
    rw [addr_at] at hc
    refine ⟨b, off, rfl, World.block_lt_of_cell? _ _ hc, fun i hi => ?_⟩
    have hi' : i < zs.length := by rw [List.length_map, hlen] at hi; omega
    have := hcell i hi'
    rw [addr_at] at this
    have hw := bounds_u8 (hwz zs[i] (List.getElem_mem hi'))
    have hv : ((UInt8.ofNat zs[i].toNat).toNat : Int) = zs[i] := by
      rw [UInt8.toNat_ofNat', Nat.mod_eq_of_lt (by omega)]
      omega
    rw [this, List.getD_eq_getElem?_getD, List.getElem?_eq_getElem hi']
    simp only [List.getElem_map, List.getElem_take, hv, Option.getD_some]

end Go.Proofs.Ytaekdfjecokpmaa

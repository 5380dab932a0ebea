/-
  The third laws' own example, 'known'; what the laws hold on to behind Make.
-/
import Derived.Test.YtpbnpghdhjminaaDoorLaw30
import Derived.Test.YtpbnpghdhjminaaDoorDev5
import Derived.Test.YtpbnpghdhjminaaDoorRef7
import Derived.Test.YtpbnpghdhjminaaDoorClass
namespace Go.Proofs.YtpbnpghdhjminaaDoor
open Go.RowKit Plait
set_option linter.unusedVariables false

set_option maxHeartbeats 800000 in
theorem known3_any (w : World) (hbd : Bnds w) :
    Calls Tryd.prog 9 #[] w fun e w' => e = .returned (.bool true) ∧ Below w.heap.size w w' := by
  have h1 : mostI ⟨7, 4, 0, 0, 0, []⟩ = 4 := by decide
  have h2 : checkI ⟨7, 4, 0, 0, 0, []⟩ = 0 := by decide
  have h3 : checkI ⟨0, 0, 0, 0, 0, []⟩ = 1 := by decide
  have h4 : slotsI ⟨7, 4, 0, 0, 0, []⟩ = 7 := by decide
  have hok : Cf.Ok ⟨7, 4, 0, 0, 0, []⟩ := by constructor <;> simp
  go_enter Tryd.func9, Tryd.ntmps9
  go_wp2_with fail
  refine (cmost_any ⟨7, 4, 0, 0, 0, []⟩ none 0 _ (by decide) (by decide)).mono ?_
  rintro e wn ⟨rfl, hb⟩
  obtain ⟨hB, hK, hZ⟩ := boxed hb
  have hQ := hK.at
  clear hb
  rw [h1]
  go_wp2_with fail
  refine (ccheck_any ⟨7, 4, 0, 0, 0, []⟩ none 0 _ (hbd.later hB) (Row.empty _ _)).mono ?_
  rintro e wn ⟨rfl, hb⟩
  clear hQ
  obtain ⟨hB, hK, hZ⟩ := boxed_on hB hK hb
  have hQ := hK.at
  clear hb
  rw [h2]
  go_wp2_with fail
  refine (ccheck_any ⟨0, 0, 0, 0, 0, []⟩ none 0 _ (hbd.later hB) (Row.empty _ _)).mono ?_
  rintro e wn ⟨rfl, hb⟩
  clear hQ
  obtain ⟨hB, hK, hZ⟩ := boxed_on hB hK hb
  have hQ := hK.at
  clear hb
  rw [h3]
  go_wp2_with fail
  refine (cslots_any ⟨7, 4, 0, 0, 0, []⟩ none 0 _ hok).mono ?_
  rintro e wn ⟨rfl, hb⟩
  clear hQ
  obtain ⟨hB, hK, hZ⟩ := boxed_on hB hK hb
  have hQ := hK.at
  clear hb
  rw [h4]
  go_wp2
  go_ret
  exact ⟨rfl, hB⟩

/-- What the laws' regions load of the network g. -/
theorem gs_mk {w W : World} {gb : Nat} {g : Cf} {ga : Option Addr} {gc : Nat} (hK : Blk W gb 24 (confBox g ga gc)) (hr : Row W ga g.P) (hB : Below w.heap.size w W) :
    W.cell? ⟨gb, 0, none⟩ = some (.int .i64 g.N) ∧ W.cell? ⟨gb, 1, none⟩ = some (.int .i64 g.Pi) ∧ W.cell? ⟨gb, 2, none⟩ = some (.int .i64 g.E) ∧ W.cell? ⟨gb, 3, none⟩ = some (.int .i64 g.G) ∧ W.cell? ⟨gb, 4, none⟩ = some (.int .i64 g.F) ∧
      W.cell? ⟨gb, 5, none⟩ = some (.slice ga g.P.length gc) ∧ Blk W gb 24 (confBox g ga gc) ∧ Row W ga g.P ∧ Below w.heap.size w W :=
  ⟨by rw [hK.at]; rfl, by rw [hK.at]; rfl, by rw [hK.at]; rfl, by rw [hK.at]; rfl, by rw [hK.at]; rfl, by rw [hK.at]; rfl, hK, hr, hB⟩

theorem gs_next {w W wm : World} {gb : Nat} {g : Cf} {ga : Option Addr} {gc : Nat} (h : W.cell? ⟨gb, 0, none⟩ = some (.int .i64 g.N) ∧ W.cell? ⟨gb, 1, none⟩ = some (.int .i64 g.Pi) ∧ W.cell? ⟨gb, 2, none⟩ = some (.int .i64 g.E) ∧ W.cell? ⟨gb, 3, none⟩ = some (.int .i64 g.G) ∧ W.cell? ⟨gb, 4, none⟩ = some (.int .i64 g.F) ∧ W.cell? ⟨gb, 5, none⟩ = some (.slice ga g.P.length gc) ∧ Blk W gb 24 (confBox g ga gc) ∧ Row W ga g.P ∧ Below w.heap.size w W) (hb : Below W.heap.size W wm) :
    wm.cell? ⟨gb, 0, none⟩ = some (.int .i64 g.N) ∧ wm.cell? ⟨gb, 1, none⟩ = some (.int .i64 g.Pi) ∧ wm.cell? ⟨gb, 2, none⟩ = some (.int .i64 g.E) ∧ wm.cell? ⟨gb, 3, none⟩ = some (.int .i64 g.G) ∧ wm.cell? ⟨gb, 4, none⟩ = some (.int .i64 g.F) ∧
      wm.cell? ⟨gb, 5, none⟩ = some (.slice ga g.P.length gc) ∧ Blk wm gb 24 (confBox g ga gc) ∧ Row wm ga g.P ∧ Below w.heap.size w wm := by
  obtain ⟨_, _, _, _, _, _, hK, hr, hB⟩ := h
  exact gs_mk (hK.later hb) (hr.later hb) (hB.trans (hb.mono hB.size))

theorem gs_out {w W : World} {gb : Nat} {g : Cf} {ga : Option Addr} {gc : Nat} (h : W.cell? ⟨gb, 0, none⟩ = some (.int .i64 g.N) ∧ W.cell? ⟨gb, 1, none⟩ = some (.int .i64 g.Pi) ∧ W.cell? ⟨gb, 2, none⟩ = some (.int .i64 g.E) ∧ W.cell? ⟨gb, 3, none⟩ = some (.int .i64 g.G) ∧ W.cell? ⟨gb, 4, none⟩ = some (.int .i64 g.F) ∧ W.cell? ⟨gb, 5, none⟩ = some (.slice ga g.P.length gc) ∧ Blk W gb 24 (confBox g ga gc) ∧ Row W ga g.P ∧ Below w.heap.size w W) : Blk W gb 24 (confBox g ga gc) ∧ Row W ga g.P ∧ Below w.heap.size w W := by
  obtain ⟨_, _, _, _, _, _, hK, hr, hB⟩ := h
  exact ⟨hK, hr, hB⟩

/-- The class of worlds in which the network g lies boxed at gb. -/
theorem gs_class {w wg : World} {gb : Nat} {g : Cf} {ga : Option Addr} {gc : Nat} (hK : Blk wg gb 24 (confBox g ga gc)) (hr : Row wg ga g.P) (hB : Below w.heap.size w wg) :
    ∃ (I : Type) (F : I → World) (i0 : I), F i0 = wg.drew ∧ (∀ i, (F i).cell? ⟨gb, 0, none⟩ = some (.int .i64 g.N)) ∧ (∀ i, (F i).cell? ⟨gb, 1, none⟩ = some (.int .i64 g.Pi)) ∧ (∀ i, (F i).cell? ⟨gb, 2, none⟩ = some (.int .i64 g.E)) ∧ (∀ i, (F i).cell? ⟨gb, 3, none⟩ = some (.int .i64 g.G)) ∧
      (∀ i, (F i).cell? ⟨gb, 4, none⟩ = some (.int .i64 g.F)) ∧ (∀ i, (F i).cell? ⟨gb, 5, none⟩ = some (.slice ga g.P.length gc)) ∧ (∀ i, Blk (F i) gb 24 (confBox g ga gc) ∧ Row (F i) ga g.P ∧ Below w.heap.size w (F i)) ∧
      (∀ i w', Below (F i).heap.size (F i) w' → ∃ j, w' = F j) := by
  obtain ⟨I, F, i0, h0, hR, hcl⟩ := class_of wg (fun W => Blk W gb 24 (confBox g ga gc) ∧ Row W ga g.P ∧ Below w.heap.size w W) ⟨hK.drew1, hr.drew1, hB.drew⟩
    (fun W W' ⟨a1, a2, a3⟩ hb => ⟨a1.later hb, a2.later hb, a3.trans (hb.mono a3.size)⟩)
  exact ⟨I, F, i0, h0, fun i => by rw [(hR i).1.at]; rfl, fun i => by rw [(hR i).1.at]; rfl, fun i => by rw [(hR i).1.at]; rfl, fun i => by rw [(hR i).1.at]; rfl, fun i => by rw [(hR i).1.at]; rfl, fun i => by rw [(hR i).1.at]; rfl, hR, hcl⟩

/-- With one cell more. -/
theorem gs_next1 {w W wm : World} {gb sb so : Nat} {sv : Value} {g : Cf} {ga : Option Addr} {gc : Nat} (h : W.cell? ⟨sb, so, none⟩ = some sv ∧ W.cell? ⟨gb, 0, none⟩ = some (.int .i64 g.N) ∧ W.cell? ⟨gb, 1, none⟩ = some (.int .i64 g.Pi) ∧ W.cell? ⟨gb, 2, none⟩ = some (.int .i64 g.E) ∧ W.cell? ⟨gb, 3, none⟩ = some (.int .i64 g.G) ∧ W.cell? ⟨gb, 4, none⟩ = some (.int .i64 g.F) ∧ W.cell? ⟨gb, 5, none⟩ = some (.slice ga g.P.length gc) ∧ Blk W gb 24 (confBox g ga gc) ∧ Row W ga g.P ∧ Below w.heap.size w W) (hb : Below W.heap.size W wm) :
    wm.cell? ⟨sb, so, none⟩ = some sv ∧ wm.cell? ⟨gb, 0, none⟩ = some (.int .i64 g.N) ∧ wm.cell? ⟨gb, 1, none⟩ = some (.int .i64 g.Pi) ∧ wm.cell? ⟨gb, 2, none⟩ = some (.int .i64 g.E) ∧ wm.cell? ⟨gb, 3, none⟩ = some (.int .i64 g.G) ∧ wm.cell? ⟨gb, 4, none⟩ = some (.int .i64 g.F) ∧
      wm.cell? ⟨gb, 5, none⟩ = some (.slice ga g.P.length gc) ∧ Blk wm gb 24 (confBox g ga gc) ∧ Row wm ga g.P ∧ Below w.heap.size w wm :=
  ⟨by rw [hb.cell (p := ⟨sb, so, none⟩) (block_lt h.1)]; exact h.1, gs_next h.2 hb⟩

end Go.Proofs.YtpbnpghdhjminaaDoor

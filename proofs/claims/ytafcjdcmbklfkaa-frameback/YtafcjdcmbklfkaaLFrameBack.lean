/-
  FrameBack's walk.
-/
import Derived.Test.YtafcjdcmbklfkaaLaw52
namespace Go.Proofs.Ytafcjdcmbklfkaa
open Go.RowKit Plait
set_option linter.unusedVariables false

/-- Read of a frame's own text. -/
theorem fRead_own (d : Cf) (da : Option Addr) (dc : Nat) (g : Fr) (w : World) (hok : d.Ok) (hokg : g.Ok d) :
    Calls Try.prog 22 #[.agg #[.int .i64 d.N, .int .i64 d.Pi, .int .i64 d.E, .int .i64 d.G, .int .i64 d.F, .slice da d.P.length dc], .string ⟨(textF g).toArray⟩] w fun e w' => ∃ (a : Option Addr) (cap : Nat), e = .returned (.tuple #[.agg #[.int .i64 g.K, .int .i64 g.R, .int .i64 g.S, .int .i64 g.P.K, .int .i64 g.P.V, .slice a g.E.length cap], .int .i64 0]) ∧ RowT w' a g.E ∧ Below w.heap.size w w' := by
  have hl := textF_length g
  have h15 := (ok_small hok hokg).2.2.2.2.2
  have h := fRead_any d da dc (textF g) w hok (by omega)
  rw [readF_text d g hok hokg] at h
  exact h.mono fun e w' ⟨a, cap, h1, h2, _, h3⟩ => ⟨a, cap, h1, h2, h3⟩

set_option maxHeartbeats 3200000 in
theorem frameBack_walk (c : Cf) (a : Option Addr) (cap : Nat) (f : Fr) (fa : Option Addr) (fc : Nat) (na : Option Addr) (ns : List Int) (nc : Nat) (w : World) (hrow : Row w a c.P) (iN : inI c.N) (iP : inI c.Pi) (iE : inI c.E) (iG : inI c.G) (iF : inI c.F)
    (hfE : RowT w fa f.E) (iK : inI f.K) (iR : inI f.R) (iS : inI f.S) (iQ : inI f.P.K) (iV : inI f.P.V) (hns : Row w na ns) :
    Calls Try.prog 4 #[.agg #[.int .i64 c.N, .int .i64 c.Pi, .int .i64 c.E, .int .i64 c.G, .int .i64 c.F, .slice a c.P.length cap], .agg #[.int .i64 f.K, .int .i64 f.R, .int .i64 f.S, .int .i64 f.P.K, .int .i64 f.P.V, .slice fa f.E.length fc], .slice na ns.length nc] w fun e w' => e = .returned (.bool true) ∧ Below w.heap.size w w' := by
  have hB : Below w.heap.size w ((w.alloc (.cells #[.int .i64 c.N, .int .i64 c.Pi, .int .i64 c.E, .int .i64 c.G, .int .i64 c.F, .slice a c.P.length cap] 24)).alloc (.cells #[.int .i64 f.K, .int .i64 f.R, .int .i64 f.S, .int .i64 f.P.K, .int .i64 f.P.V, .slice fa f.E.length fc] 29)) := (alloc_below w _).alloc (by simp) _
  have hC : Blk ((w.alloc (.cells #[.int .i64 c.N, .int .i64 c.Pi, .int .i64 c.E, .int .i64 c.G, .int .i64 c.F, .slice a c.P.length cap] 24)).alloc (.cells #[.int .i64 f.K, .int .i64 f.R, .int .i64 f.S, .int .i64 f.P.K, .int .i64 f.P.V, .slice fa f.E.length fc] 29)) w.heap.size 24 (confBox c a cap) := (Blk.new w _ _).alloc _
  have hF : Blk ((w.alloc (.cells #[.int .i64 c.N, .int .i64 c.Pi, .int .i64 c.E, .int .i64 c.G, .int .i64 c.F, .slice a c.P.length cap] 24)).alloc (.cells #[.int .i64 f.K, .int .i64 f.R, .int .i64 f.S, .int .i64 f.P.K, .int .i64 f.P.V, .slice fa f.E.length fc] 29)) (w.heap.size + 1) 29 (frBox f fa fc) := Blk.newAt _ _ (by simp)
  go_enter Try.func4, Try.ntmps4
  go_wp2_with fail
  refine (known5_any _).mono ?_
  rintro e wn ⟨rfl, hb⟩
  replace hB := hB.trans (hb.mono hB.size)
  replace hC := hC.later hb
  replace hF := hF.later hb
  clear hb
  have qC := hC.at
  unfold confBox at qC
  go_wp2_with fail
  refine (make_any c a cap _ (hrow.later hB)).mono ?_
  rintro e wm ⟨da, dc, rfl, hrd, hfd, hb⟩
  replace hB := hB.trans (hb.mono hB.size)
  replace hF := hF.later hb
  clear hb qC hC hfd
  have hok := makeC_ok c
  generalize makeC c = d at *
  have hD : Blk (wm.alloc (.cells #[.int .i64 d.N, .int .i64 d.Pi, .int .i64 d.E, .int .i64 d.G, .int .i64 d.F, .slice da d.P.length dc] 24)) wm.heap.size 24 (confBox d da dc) := Blk.new wm _ _
  replace hB := hB.alloc hB.size (.cells #[.int .i64 d.N, .int .i64 d.Pi, .int .i64 d.E, .int .i64 d.G, .int .i64 d.F, .slice da d.P.length dc] 24)
  replace hF := hF.alloc (.cells #[.int .i64 d.N, .int .i64 d.Pi, .int .i64 d.E, .int .i64 d.G, .int .i64 d.F, .slice da d.P.length dc] 24)
  replace hrd := hrd.alloc (.cells #[.int .i64 d.N, .int .i64 d.Pi, .int .i64 d.E, .int .i64 d.G, .int .i64 d.F, .slice da d.P.length dc] 24)
  go_upto_region 4 with fail
  generalize wm.alloc (.cells #[.int .i64 d.N, .int .i64 d.Pi, .int .i64 d.E, .int .i64 d.G, .int .i64 d.F, .slice da d.P.length dc] 24) = wn at *
  generalize wm.heap.size = db at *
  have qD := hD.at
  unfold confBox at qD
  have qF := hF.at
  unfold frBox at qF
  go_wp2_with fail
  refine (make5_any d da dc f fa fc na ns nc _ hok (hns.later hB) iK iR iS iV).mono ?_
  rintro e wm ⟨ga, gc, rfl, hrg, hfg, hb⟩
  replace hB := hB.trans (hb.mono hB.size)
  replace hF := hF.later hb
  replace hD := hD.later hb
  replace hrd := hrd.later hb
  clear hb qD qF hfg
  have hokg := makeF_ok d f ns hok
  generalize makeF d f ns = g at *
  have hG : Blk (wm.alloc (.cells #[.int .i64 g.K, .int .i64 g.R, .int .i64 g.S, .int .i64 g.P.K, .int .i64 g.P.V, .slice ga g.E.length gc] 29)) wm.heap.size 29 (frBox g ga gc) := Blk.new wm _ _
  replace hB := hB.alloc hB.size (.cells #[.int .i64 g.K, .int .i64 g.R, .int .i64 g.S, .int .i64 g.P.K, .int .i64 g.P.V, .slice ga g.E.length gc] 29)
  replace hF := hF.alloc (.cells #[.int .i64 g.K, .int .i64 g.R, .int .i64 g.S, .int .i64 g.P.K, .int .i64 g.P.V, .slice ga g.E.length gc] 29)
  replace hD := hD.alloc (.cells #[.int .i64 g.K, .int .i64 g.R, .int .i64 g.S, .int .i64 g.P.K, .int .i64 g.P.V, .slice ga g.E.length gc] 29)
  replace hrd := hrd.alloc (.cells #[.int .i64 g.K, .int .i64 g.R, .int .i64 g.S, .int .i64 g.P.K, .int .i64 g.P.V, .slice ga g.E.length gc] 29)
  replace hrg := hrg.alloc (.cells #[.int .i64 g.K, .int .i64 g.R, .int .i64 g.S, .int .i64 g.P.K, .int .i64 g.P.V, .slice ga g.E.length gc] 29)
  go_upto_region 5 with fail
  generalize wm.alloc (.cells #[.int .i64 g.K, .int .i64 g.R, .int .i64 g.S, .int .i64 g.P.K, .int .i64 g.P.V, .slice ga g.E.length gc] 29) = wn at *
  generalize wm.heap.size = gb at *
  have HT := Lib.hid (fun W (h : RowT W ga g.E) => fText_ok d da dc g ga gc W hok hokg h)
  have HU := Lib.hid (fun W (h : RowT W ga g.E) => rText_ok d da dc g ga gc W hok hokg h)
  have HR := Lib.hid (fun W => fRead_own d da dc g W hok hokg)
  generalize textF g = l at *
  have qD := hD.at
  unfold confBox at qD
  have qG := hG.at
  unfold frBox at qG
  go_wp2_with fail
  refine (HT.out _ hrg).mono ?_
  rintro e wq ⟨rfl, hb⟩
  (try clear qD)
  (try clear qG)
  replace hB := hB.trans (hb.mono hB.size)
  replace hD := hD.later hb
  replace hrd := hrd.later hb
  replace hG := hG.later hb
  replace hrg := hrg.later hb
  have qD := hD.at
  unfold confBox at qD
  have qG := hG.at
  unfold frBox at qG
  clear hb
  go_wp2_with fail
  refine (HR.out _).mono ?_
  rintro e wq ⟨xa, xc, rfl, hrx, hb⟩
  replace hB := (hB.trans (hb.mono hB.size)).alloc (hB.trans (hb.mono hB.size)).size (.cells #[.int .i64 g.K, .int .i64 g.R, .int .i64 g.S, .int .i64 g.P.K, .int .i64 g.P.V, .slice xa g.E.length xc] 29)
  replace hD := (hD.later hb).alloc (.cells #[.int .i64 g.K, .int .i64 g.R, .int .i64 g.S, .int .i64 g.P.K, .int .i64 g.P.V, .slice xa g.E.length xc] 29)
  replace hG := (hG.later hb).alloc (.cells #[.int .i64 g.K, .int .i64 g.R, .int .i64 g.S, .int .i64 g.P.K, .int .i64 g.P.V, .slice xa g.E.length xc] 29)
  replace hrg := (hrg.later hb).alloc (.cells #[.int .i64 g.K, .int .i64 g.R, .int .i64 g.S, .int .i64 g.P.K, .int .i64 g.P.V, .slice xa g.E.length xc] 29)
  replace hrx := hrx.alloc (.cells #[.int .i64 g.K, .int .i64 g.R, .int .i64 g.S, .int .i64 g.P.K, .int .i64 g.P.V, .slice xa g.E.length xc] 29)
  have hX : Blk (wq.alloc (.cells #[.int .i64 g.K, .int .i64 g.R, .int .i64 g.S, .int .i64 g.P.K, .int .i64 g.P.V, .slice xa g.E.length xc] 29)) wq.heap.size 29 (frBox g xa xc) := Blk.new wq _ _
  clear hb qD qG HR
  go_upto_region 7 with fail
  generalize wq.alloc (.cells #[.int .i64 g.K, .int .i64 g.R, .int .i64 g.S, .int .i64 g.P.K, .int .i64 g.P.V, .slice xa g.E.length xc] 29) = wm at *
  generalize wq.heap.size = xb at *
  have qD := hD.at
  unfold confBox at qD
  have qG := hG.at
  unfold frBox at qG
  go_wp2_with fail
  refine (HU.out _ hrg).mono ?_
  rintro e wo ⟨rfl, hb⟩
  replace hB := hB.trans (hb.mono hB.size)
  replace hG := hG.later hb
  replace hX := hX.later hb
  replace hrg := hrg.later hb
  replace hrx := hrx.later hb
  clear hb qD qG
  have qG := hG.at
  unfold frBox at qG
  have qX := hX.at
  unfold frBox at qX
  have HS := Lib.hid (rSame5_any g g xa ga xc gc wo hrx hrg)
  rw [decide_eq_true (rfl : g = g)] at HS
  go_wp2_with fail
  refine HS.out.mono ?_
  rintro e wp ⟨rfl, hb⟩
  replace hB := hB.trans (hb.mono hB.size)
  replace hG := hG.later hb
  replace hX := hX.later hb
  replace hrg := hrg.later hb
  replace hrx := hrx.later hb
  clear hb qX qG
  have qG := hG.at
  unfold frBox at qG
  have qX := hX.at
  unfold frBox at qX
  have HS2 := Lib.hid (fSame_any g g xa ga xc gc wp hrx hrg)
  rw [decide_eq_true (rfl : g = g)] at HS2
  go_wp2_with fail
  refine HS2.out.mono ?_
  rintro e wt ⟨rfl, hb⟩
  go_wp2
  go_ret
  exact ⟨rfl, hB.trans (hb.mono hB.size)⟩

end Go.Proofs.Ytafcjdcmbklfkaa

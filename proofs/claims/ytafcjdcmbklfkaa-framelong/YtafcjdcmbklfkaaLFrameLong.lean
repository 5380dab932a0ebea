/-
  FrameLong's walk.
-/
import Derived.Test.YtafcjdcmbklfkaaLaw52
namespace Go.Proofs.Ytafcjdcmbklfkaa
open Go.RowKit Plait
set_option linter.unusedVariables false

set_option maxHeartbeats 3200000 in
theorem frameLong_walk (c : Cf) (a : Option Addr) (cap : Nat) (f : Fr) (fa : Option Addr) (fc : Nat) (na : Option Addr) (ns : List Int) (nc : Nat) (w : World) (hrow : Row w a c.P) (iN : inI c.N) (iP : inI c.Pi) (iE : inI c.E) (iG : inI c.G) (iF : inI c.F)
    (hfE : RowT w fa f.E) (iK : inI f.K) (iR : inI f.R) (iS : inI f.S) (iQ : inI f.P.K) (iV : inI f.P.V) (hns : Row w na ns) :
    Calls Try.prog 7 #[.agg #[.int .i64 c.N, .int .i64 c.Pi, .int .i64 c.E, .int .i64 c.G, .int .i64 c.F, .slice a c.P.length cap], .agg #[.int .i64 f.K, .int .i64 f.R, .int .i64 f.S, .int .i64 f.P.K, .int .i64 f.P.V, .slice fa f.E.length fc], .slice na ns.length nc] w fun e w' => e = .returned (.bool true) ∧ Below w.heap.size w w' := by
  have hB : Below w.heap.size w ((w.alloc (.cells #[.int .i64 c.N, .int .i64 c.Pi, .int .i64 c.E, .int .i64 c.G, .int .i64 c.F, .slice a c.P.length cap] 24)).alloc (.cells #[.int .i64 f.K, .int .i64 f.R, .int .i64 f.S, .int .i64 f.P.K, .int .i64 f.P.V, .slice fa f.E.length fc] 29)) := (alloc_below w _).alloc (by simp) _
  have hC : Blk ((w.alloc (.cells #[.int .i64 c.N, .int .i64 c.Pi, .int .i64 c.E, .int .i64 c.G, .int .i64 c.F, .slice a c.P.length cap] 24)).alloc (.cells #[.int .i64 f.K, .int .i64 f.R, .int .i64 f.S, .int .i64 f.P.K, .int .i64 f.P.V, .slice fa f.E.length fc] 29)) w.heap.size 24 (confBox c a cap) := (Blk.new w _ _).alloc _
  have hF : Blk ((w.alloc (.cells #[.int .i64 c.N, .int .i64 c.Pi, .int .i64 c.E, .int .i64 c.G, .int .i64 c.F, .slice a c.P.length cap] 24)).alloc (.cells #[.int .i64 f.K, .int .i64 f.R, .int .i64 f.S, .int .i64 f.P.K, .int .i64 f.P.V, .slice fa f.E.length fc] 29)) (w.heap.size + 1) 29 (frBox f fa fc) := Blk.newAt _ _ (by simp)
  go_enter Try.func7, Try.ntmps7
  go_wp2_with fail
  refine (known5_any _).mono ?_
  rintro e wn ⟨rfl, hb⟩
  replace hB := hB.trans (hb.mono hB.size)
  replace hC := hC.later hb
  replace hF := hF.later hb
  clear hb
  have qC := hC.at
  unfold confBox at qC
  go_wp2_with fail
  refine (make_any c a cap _ (hrow.later hB)).mono ?_
  rintro e wm ⟨da, dc, rfl, hrd, hfd, hb⟩
  replace hB := hB.trans (hb.mono hB.size)
  replace hF := hF.later hb
  clear hb qC hC hfd
  have hok := makeC_ok c
  generalize makeC c = d at *
  have hD : Blk (wm.alloc (.cells #[.int .i64 d.N, .int .i64 d.Pi, .int .i64 d.E, .int .i64 d.G, .int .i64 d.F, .slice da d.P.length dc] 24)) wm.heap.size 24 (confBox d da dc) := Blk.new wm _ _
  replace hB := hB.alloc hB.size (.cells #[.int .i64 d.N, .int .i64 d.Pi, .int .i64 d.E, .int .i64 d.G, .int .i64 d.F, .slice da d.P.length dc] 24)
  replace hF := hF.alloc (.cells #[.int .i64 d.N, .int .i64 d.Pi, .int .i64 d.E, .int .i64 d.G, .int .i64 d.F, .slice da d.P.length dc] 24)
  replace hrd := hrd.alloc (.cells #[.int .i64 d.N, .int .i64 d.Pi, .int .i64 d.E, .int .i64 d.G, .int .i64 d.F, .slice da d.P.length dc] 24)
  go_upto_region 4 with fail
  generalize wm.alloc (.cells #[.int .i64 d.N, .int .i64 d.Pi, .int .i64 d.E, .int .i64 d.G, .int .i64 d.F, .slice da d.P.length dc] 24) = wn at *
  generalize wm.heap.size = db at *
  have qD := hD.at
  unfold confBox at qD
  have qF := hF.at
  unfold frBox at qF
  go_wp2_with fail
  refine (make5_any d da dc f fa fc na ns nc _ hok (hns.later hB) iK iR iS iV).mono ?_
  rintro e wm ⟨ga, gc, rfl, hrg, hfg, hb⟩
  replace hB := hB.trans (hb.mono hB.size)
  replace hF := hF.later hb
  replace hD := hD.later hb
  replace hrd := hrd.later hb
  clear hb qD qF hfg
  have hokg := makeF_ok d f ns hok
  generalize makeF d f ns = g at *
  have hG : Blk (wm.alloc (.cells #[.int .i64 g.K, .int .i64 g.R, .int .i64 g.S, .int .i64 g.P.K, .int .i64 g.P.V, .slice ga g.E.length gc] 29)) wm.heap.size 29 (frBox g ga gc) := Blk.new wm _ _
  replace hB := hB.alloc hB.size (.cells #[.int .i64 g.K, .int .i64 g.R, .int .i64 g.S, .int .i64 g.P.K, .int .i64 g.P.V, .slice ga g.E.length gc] 29)
  replace hF := hF.alloc (.cells #[.int .i64 g.K, .int .i64 g.R, .int .i64 g.S, .int .i64 g.P.K, .int .i64 g.P.V, .slice ga g.E.length gc] 29)
  replace hD := hD.alloc (.cells #[.int .i64 g.K, .int .i64 g.R, .int .i64 g.S, .int .i64 g.P.K, .int .i64 g.P.V, .slice ga g.E.length gc] 29)
  replace hrd := hrd.alloc (.cells #[.int .i64 g.K, .int .i64 g.R, .int .i64 g.S, .int .i64 g.P.K, .int .i64 g.P.V, .slice ga g.E.length gc] 29)
  replace hrg := hrg.alloc (.cells #[.int .i64 g.K, .int .i64 g.R, .int .i64 g.S, .int .i64 g.P.K, .int .i64 g.P.V, .slice ga g.E.length gc] 29)
  go_upto_region 5 with fail
  generalize wm.alloc (.cells #[.int .i64 g.K, .int .i64 g.R, .int .i64 g.S, .int .i64 g.P.K, .int .i64 g.P.V, .slice ga g.E.length gc] 29) = wn at *
  generalize wm.heap.size = gb at *
  have HL := Lib.hid (textF_length g)
  have hlen := hokg.len
  have HW := Lib.hid (text_whole g)
  have hl15 := (ok_small hok hokg).2.2.2.2.2
  have n6 := hok.n6; have n12 := hok.n12; have n3 := hok.len
  have qD := hD.at
  unfold confBox at qD
  have qG := hG.at
  unfold frBox at qG
  have HT := Lib.hid (fun W (h : RowT W ga g.E) => fText_ok d da dc g ga gc W hok hokg h)
  have HWh := Lib.hid (fun W (h : (textF g).length ≤ 1099511627776) => rwhole_any (textF g) W h)
  rw [HW.out] at HWh
  clear HW
  generalize textF g = l at *
  by_cases h : g.K = 3 ∧ g.S < d.N
  · obtain ⟨h1, h2⟩ := h
    have he : (l.length : Int) = 51 + 10 * (d.N + (d.P.length : Int)) := by
      have := HL.out
      rw [show echoI d g.K g.S = slotsI d by unfold echoI; rw [if_pos ⟨h1, h2⟩]] at hlen
      unfold slotsI at hlen
      omega
    have d1 : (g.K == 3) = true := by simpa using h1
    have d2 : decide (g.S < d.N) = true := by simpa using h2
    have d3 : ((l.length : Int) == 51 + 10 * (d.N + (d.P.length : Int))) = true := by simpa using he
    have hl2 : l.length ≤ 1099511627776 := by omega
    clear h1 h2 hlen he
    go_wp2_with fail
    refine (HT.out _ hrg).mono ?_
    rintro e wq ⟨rfl, hb⟩
    replace hB := hB.trans (hb.mono hB.size)
    go_wp2_with fail
    refine (HWh.out _ hl2).mono ?_
    rintro e wl ⟨rfl, rfl⟩
    go_wp2
    go_ret
    exact ⟨rfl, hB⟩
  · have he : (l.length : Int) = 51 := by
      have := HL.out
      rw [show echoI d g.K g.S = 0 by unfold echoI; rw [if_neg h]] at hlen
      omega
    have hl2 : l.length ≤ 1099511627776 := by omega
    have d3 : ((l.length : Int) == 51) = true := by simpa using he
    by_cases h1 : g.K = 3
    · have d1 : (g.K == 3) = true := by simpa using h1
      have d2 : decide (g.S < d.N) = false := by simp; omega
      clear h h1 hlen he
      go_wp2_with fail
      refine (HT.out _ hrg).mono ?_
      rintro e wq ⟨rfl, hb⟩
      replace hB := hB.trans (hb.mono hB.size)
      go_wp2_with fail
      refine (HWh.out _ hl2).mono ?_
      rintro e wl ⟨rfl, rfl⟩
      go_wp2
      go_ret
      exact ⟨rfl, hB⟩
    · have d1 : (g.K == 3) = false := by simpa using h1
      clear h h1 hlen he
      go_wp2_with fail
      refine (HT.out _ hrg).mono ?_
      rintro e wq ⟨rfl, hb⟩
      replace hB := hB.trans (hb.mono hB.size)
      go_wp2_with fail
      refine (HWh.out _ hl2).mono ?_
      rintro e wl ⟨rfl, rfl⟩
      go_wp2
      go_ret
      exact ⟨rfl, hB⟩

end Go.Proofs.Ytafcjdcmbklfkaa

/-
  ConfMost's walk.
-/
import Derived.Test.YtpbnpghdhjminaaDoorLaw31
namespace Go.Proofs.YtpbnpghdhjminaaDoor
open Go.RowKit Plait
set_option linter.unusedVariables false

set_option maxHeartbeats 3200000 in
theorem confMost_walk (c : Cf) (a : Option Addr) (cap : Nat) (w : World) (hbd : Bnds w) (hrow : Row w a c.P) (iN : inI c.N) (iP : inI c.Pi) (iE : inI c.E) (iG : inI c.G) (iF : inI c.F) :
    Calls Tryd.prog 8 #[.agg #[.int .i64 c.N, .int .i64 c.Pi, .int .i64 c.E, .int .i64 c.G, .int .i64 c.F, .slice a c.P.length cap]] w fun e w' => e = .returned (.bool true) ∧ Below w.heap.size w w' := by
  go_enter Tryd.func8, Tryd.ntmps8
  go_wp2_with fail
  refine (known3_any _ (hbd.later (alloc_below _ _))).mono ?_
  rintro e wn ⟨rfl, hb⟩
  obtain ⟨hB, hK, hZ⟩ := boxed hb
  have hQ := hK.at
  clear hb
  go_wp2_with fail
  refine (make_any c a cap _ (hrow.later hB)).mono ?_
  rintro e wn ⟨ga, gc, rfl, hrg, hfg, hb⟩
  clear hQ
  obtain ⟨hB, hK, hZ⟩ := boxed_on hB hK hb
  have hQ := hK.at
  clear hb
  clear hfg hQ
  have hok := makeC_ok c
  generalize makeC c = g at hok hrg ⊢
  have hBg : Below w.heap.size w (wn.alloc (.cells #[.int .i64 g.N, .int .i64 g.Pi, .int .i64 g.E, .int .i64 g.G, .int .i64 g.F, .slice ga g.P.length gc] 24)) := hB.alloc hB.size _
  have hKg : Blk (wn.alloc (.cells #[.int .i64 g.N, .int .i64 g.Pi, .int .i64 g.E, .int .i64 g.G, .int .i64 g.F, .slice ga g.P.length gc] 24)) wn.heap.size 24 (confBox g ga gc) := Blk.new wn _ _
  replace hrg := hrg.alloc (.cells #[.int .i64 g.N, .int .i64 g.Pi, .int .i64 g.E, .int .i64 g.G, .int .i64 g.F, .slice ga g.P.length gc] 24)
  have hbdg := (hbd.later hB).later (alloc_below wn (.cells #[.int .i64 g.N, .int .i64 g.Pi, .int .i64 g.E, .int .i64 g.G, .int .i64 g.F, .slice ga g.P.length gc] 24))
  go_wp2_with fail
  generalize wn.alloc (.cells #[.int .i64 g.N, .int .i64 g.Pi, .int .i64 g.E, .int .i64 g.G, .int .i64 g.F, .slice ga g.P.length gc] 24) = wg at hBg hKg hrg hbdg ⊢
  generalize wn.heap.size = gb at hKg ⊢
  clear hB hK hZ
  have hQg := hKg.at
  unfold confBox at hQg
  have n6 := hok.n6; have n12 := hok.n12; have e0 := hok.e0; have e1 := hok.e1; have g0 := hok.g0; have g1 := hok.g1; have p0 := hok.p0; have p1 := hok.p1
  go_wp2_with fail
  refine (cmost_any g ga gc _ (by omega) n12).mono ?_
  rintro e wg ⟨rfl, hb⟩
  clear hQg
  replace hBg := hBg.trans (hb.mono hBg.size)
  replace hKg := hKg.later hb
  replace hrg := hrg.later hb
  have hQg := hKg.at
  unfold confBox at hQg
  clear hb
  have m1 : g.N < 2 * mostI g := by unfold mostI; omega
  have m2 : 2 * (mostI g - 1) ≤ g.N := by unfold mostI; omega
  have m3 : mostI g < g.N := by unfold mostI; omega
  have m4 : 1 ≤ mostI g := by unfold mostI; omega
  have hl : (limitI g == 4 * g.N + 8) = true := by simp [limitI]
  have hw : 8 * (g.E + g.G + 1) ≤ windowI g := by unfold windowI; omega
  generalize mostI g = m at *
  have HL := Lib.hid (climit_any g ga gc)
  have HW := Lib.hid (cwindow_any g ga gc)
  generalize limitI g = li at *
  generalize windowI g = wi at *
  have d1 : decide (g.N < 2 * m) = true := by simpa using m1
  have d2 : decide (2 * (m - 1) ≤ g.N) = true := by simpa using m2
  have d3 : decide (m < g.N) = true := by simpa using m3
  have d4 : decide (8 * (g.E + g.G + 1) ≤ wi) = true := by simpa using hw
  have z1 : IntKind.i64.wrap (2 * m) = 2 * m := wrap_in _ (by omega) (by omega)
  have z2 : IntKind.i64.wrap (m - 1) = m - 1 := wrap_in _ (by omega) (by omega)
  have z3 : IntKind.i64.wrap (2 * (m - 1)) = 2 * (m - 1) := wrap_in _ (by omega) (by omega)
  have z4 : IntKind.i64.wrap (4 * g.N) = 4 * g.N := wrap_in _ (by omega) (by omega)
  have z5 : IntKind.i64.wrap (4 * g.N + 8) = 4 * g.N + 8 := wrap_in _ (by omega) (by omega)
  have z6 : IntKind.i64.wrap (g.E + g.G) = g.E + g.G := wrap_in _ (by omega) (by omega)
  have z7 : IntKind.i64.wrap (g.E + g.G + 1) = g.E + g.G + 1 := wrap_in _ (by omega) (by omega)
  have z8 : IntKind.i64.wrap (8 * (g.E + g.G + 1)) = 8 * (g.E + g.G + 1) := wrap_in _ (by omega) (by omega)
  clear m1 m2 m3 hw hQg
  go_wp2_with fail
  go_region_held3 (fun W => W.cell? ⟨gb, 0, none⟩ = some (.int .i64 g.N) ∧ W.cell? ⟨gb, 1, none⟩ = some (.int .i64 g.Pi) ∧ W.cell? ⟨gb, 2, none⟩ = some (.int .i64 g.E) ∧ W.cell? ⟨gb, 3, none⟩ = some (.int .i64 g.G) ∧ W.cell? ⟨gb, 4, none⟩ = some (.int .i64 g.F) ∧ W.cell? ⟨gb, 5, none⟩ = some (.slice ga g.P.length gc) ∧ Blk W gb 24 (confBox g ga gc) ∧ Row W ga g.P ∧ Below w.heap.size w W) (first | assumption | exact gs_mk hKg.drew1 hrg.drew1 hBg.drew | exact gs_next ‹_› hbm)
    (first
    | (go_at_call 25; refine (HL.out _ hok).mono ?_; rintro e wm ⟨rfl, hbm⟩)
    | (go_at_call 23; refine (HW.out _ hok).mono ?_; rintro e wm ⟨rfl, hbm⟩))
  go_wp2
  go_ret
  exact ⟨rfl, (gs_out ‹_›).2.2⟩

end Go.Proofs.YtpbnpghdhjminaaDoor

/-
  ConfRounds' walk.
-/
import Derived.Test.YtpbnpghdhjminaaDoorLaw31
namespace Go.Proofs.YtpbnpghdhjminaaDoor
open Go.RowKit Plait
set_option linter.unusedVariables false

theorem wire_lo (g : Cf) (r : Int) : 0 ≤ wireI g r ∧ wireI g r ≤ 65535 := by unfold wireI; omega
theorem wire_next (g : Cf) (r : Int) (h : wireI g r ≠ 65535) : wireI g (r + 1) = wireI g r + 1 := by unfold wireI at *; omega
theorem wire_last (g : Cf) (r : Int) (h : wireI g r = 65535) : wireI g (r + 1) = 0 := by unfold wireI at *; omega
theorem wire_round (g : Cf) (r : Int) : wireI g (r + 65536) = wireI g r := by unfold wireI; omega
theorem wire_zero (g : Cf) (h0 : 0 ≤ g.F) (h1 : g.F ≤ 65535) : wireI g 0 = g.F := by unfold wireI; omega

set_option maxHeartbeats 6400000 in
theorem confRounds_walk (c : Cf) (a : Option Addr) (cap : Nat) (rd : Int) (w : World) (hbd : Bnds w) (hrow : Row w a c.P) (iN : inI c.N) (iP : inI c.Pi) (iE : inI c.E) (iG : inI c.G) (iF : inI c.F) (r1 : -9223372036854775808 ≤ rd) (r2 : rd ≤ 9223372036854775807) :
    Calls Tryd.prog 6 #[.agg #[.int .i64 c.N, .int .i64 c.Pi, .int .i64 c.E, .int .i64 c.G, .int .i64 c.F, .slice a c.P.length cap], .int .i64 rd] w fun e w' => e = .returned (.bool true) ∧ Below w.heap.size w w' := by
  go_enter Tryd.func6, Tryd.ntmps6
  go_wp2_with fail
  refine (known3_any _ (hbd.later (alloc_below _ _))).mono ?_
  rintro e wn ⟨rfl, hb⟩
  obtain ⟨hB, hK, hZ⟩ := boxed hb
  have hQ := hK.at
  clear hb
  go_wp2_with fail
  refine (make_any c a cap _ (hrow.later hB)).mono ?_
  rintro e wn ⟨ga, gc, rfl, hrg, hfg, hb⟩
  clear hQ
  obtain ⟨hB, hK, hZ⟩ := boxed_on hB hK hb
  have hQ := hK.at
  clear hb
  clear hfg hQ
  have hok := makeC_ok c
  generalize makeC c = g at hok hrg ⊢
  have hBg : Below w.heap.size w (wn.alloc (.cells #[.int .i64 g.N, .int .i64 g.Pi, .int .i64 g.E, .int .i64 g.G, .int .i64 g.F, .slice ga g.P.length gc] 24)) := hB.alloc hB.size _
  have hKg : Blk (wn.alloc (.cells #[.int .i64 g.N, .int .i64 g.Pi, .int .i64 g.E, .int .i64 g.G, .int .i64 g.F, .slice ga g.P.length gc] 24)) wn.heap.size 24 (confBox g ga gc) := Blk.new wn _ _
  replace hrg := hrg.alloc (.cells #[.int .i64 g.N, .int .i64 g.Pi, .int .i64 g.E, .int .i64 g.G, .int .i64 g.F, .slice ga g.P.length gc] 24)
  have hbdg := (hbd.later hB).later (alloc_below wn (.cells #[.int .i64 g.N, .int .i64 g.Pi, .int .i64 g.E, .int .i64 g.G, .int .i64 g.F, .slice ga g.P.length gc] 24))
  go_wp2_with fail
  generalize wn.alloc (.cells #[.int .i64 g.N, .int .i64 g.Pi, .int .i64 g.E, .int .i64 g.G, .int .i64 g.F, .slice ga g.P.length gc] 24) = wg at hBg hKg hrg hbdg ⊢
  generalize wn.heap.size = gb at hKg ⊢
  clear hB hK hZ
  have hQg := hKg.at
  unfold confBox at hQg
  refine (within3_any rd 200000 _ (by omega) (by omega)).mono ?_
  rintro e wl ⟨rfl, rfl⟩
  have s1 : 0 ≤ rd % 200000 := by omega
  have s2 : rd % 200000 < 200000 := by omega
  generalize rd % 200000 = r at *
  have z1 : IntKind.i64.wrap (r + 1) = r + 1 := wrap_in _ (by omega) (by omega)
  have z2 : IntKind.i64.wrap (r + 65536) = r + 65536 := wrap_in _ (by omega) (by omega)
  clear hQg
  obtain ⟨I, F, i0, h0, hF0, hF1, hF2, hF3, hF4, hF5, hFK, hFcl⟩ := gs_class hKg hrg hBg
  have HFK := Lib.hid hFK
  have HFC := Lib.hid hFcl
  have H0 := Lib.hid h0
  clear hFK hFcl h0
  haveI : Nonempty I := ⟨i0⟩
  go_wp2_with fail
  refine wp_region_class F i0 H0.out (by kernel_rfl) (by kernel_rfl) ?_
  repeat (go_big_quiet_step (((go_at_call 27; exact class_call HFC.out (cwire_any g ga gc _ _ hok (by omega) (by omega))))))
  refine wpQuiet_nil ?_
  intro _ hw'
  obtain ⟨iq, hw''⟩ := hw'
  subst hw''
  clear hKg hrg hBg hF0 hF1 hF2 hF3 hF4 hF5 HFC H0
  obtain ⟨hKg, hrg, hBg⟩ := HFK.out iq
  clear HFK
  generalize F iq = wg at *
  have hQg := hKg.at
  unfold confBox at hQg
  have y1 := wire_lo g r
  have d9 : (wireI g (r + 65536) == wireI g r) = true := by rw [wire_round]; simp
  have d10 : (wireI g 0 == g.F) = true := by rw [wire_zero g hok.f0 hok.f1]; simp
  have HN := Lib.hid (wire_next g r)
  have HL := Lib.hid (wire_last g r)
  generalize wireI g r = x at *
  generalize wireI g (r + 1) = y at *
  obtain ⟨x0, x1⟩ := y1
  have d1 : decide (0 ≤ x) = true := by simpa using x0
  have d2 : decide (x ≤ 65535) = true := by simpa using x1
  have z3 : IntKind.i64.wrap (x + 1) = x + 1 := wrap_in _ (by omega) (by omega)
  by_cases h : x = 65535
  · have d3 : (y == x + 1) = false := by rw [HL.out h, h]; rfl
    have d4 : (x == 65535) = true := by simpa using h
    have d5 : (y == 0) = true := by rw [HL.out h]; rfl
    clear h
    clear hQg
    obtain ⟨I, F, i0, h0, hF0, hF1, hF2, hF3, hF4, hF5, hFK, hFcl⟩ := gs_class hKg hrg hBg
    have HFK := Lib.hid hFK
    have HFC := Lib.hid hFcl
    have H0 := Lib.hid h0
    clear hFK hFcl h0
    haveI : Nonempty I := ⟨i0⟩
    go_wp2_with fail
    refine wp_region_class F i0 H0.out (by kernel_rfl) (by kernel_rfl) ?_
    repeat (go_big_quiet_step (((go_at_call 27; exact class_call HFC.out (cwire_any g ga gc _ _ hok (by omega) (by omega))))))
    refine wpQuiet_nil ?_
    intro _ hw'
    obtain ⟨iq, hw''⟩ := hw'
    subst hw''
    clear hKg hrg hBg hF0 hF1 hF2 hF3 hF4 hF5 HFC H0
    obtain ⟨hKg, hrg, hBg⟩ := HFK.out iq
    clear HFK
    generalize F iq = wg at *
    have hQg := hKg.at
    unfold confBox at hQg
    go_wp2
    go_ret
    exact ⟨rfl, hBg⟩
  · have d3 : (y == x + 1) = true := by rw [HN.out h]; simp
    clear h
    clear hQg
    obtain ⟨I, F, i0, h0, hF0, hF1, hF2, hF3, hF4, hF5, hFK, hFcl⟩ := gs_class hKg hrg hBg
    have HFK := Lib.hid hFK
    have HFC := Lib.hid hFcl
    have H0 := Lib.hid h0
    clear hFK hFcl h0
    haveI : Nonempty I := ⟨i0⟩
    go_wp2_with fail
    refine wp_region_class F i0 H0.out (by kernel_rfl) (by kernel_rfl) ?_
    repeat (go_big_quiet_step (((go_at_call 27; exact class_call HFC.out (cwire_any g ga gc _ _ hok (by omega) (by omega))))))
    refine wpQuiet_nil ?_
    intro _ hw'
    obtain ⟨iq, hw''⟩ := hw'
    subst hw''
    clear hKg hrg hBg hF0 hF1 hF2 hF3 hF4 hF5 HFC H0
    obtain ⟨hKg, hrg, hBg⟩ := HFK.out iq
    clear HFK
    generalize F iq = wg at *
    have hQg := hKg.at
    unfold confBox at hQg
    go_wp2
    go_ret
    exact ⟨rfl, hBg⟩

end Go.Proofs.YtpbnpghdhjminaaDoor

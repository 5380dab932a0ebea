/-
  ConfChecks' walk.
-/
import Derived.Test.YtpbnpghdhjminaaDoorLaw31
import Derived.Test.YtpbnpghdhjminaaDoorBase2
namespace Go.Proofs.YtpbnpghdhjminaaDoor
open Go.RowKit Plait
set_option linter.unusedVariables false

/-- The class of worlds behind wn in which a box lies at gb and a row somewhere. -/
theorem ck_class {wn wg : World} {gb : Nat} {bx : Array Value} {A : Option Addr} {ys : List Int} (hb : Below wn.heap.size wn wg) (hK : Blk wg gb 24 bx) (hr : Row wg A ys) :
    ∃ (I : Type) (F : I → World) (i0 : I), F i0 = wg.drew ∧ (∀ i k, (F i).cell? ⟨gb, k, none⟩ = bx[k]?) ∧ (∀ i, Below wn.heap.size wn (F i) ∧ Blk (F i) gb 24 bx ∧ Row (F i) A ys) ∧ (∀ i w', Below (F i).heap.size (F i) w' → ∃ j, w' = F j) := by
  obtain ⟨I, F, i0, h0, hR, hcl⟩ := class_of wg (fun W => Below wn.heap.size wn W ∧ Blk W gb 24 bx ∧ Row W A ys) ⟨hb.drew, hK.drew1, hr.drew1⟩
    (fun W W' ⟨a1, a2, a3⟩ hb => ⟨a1.trans (hb.mono a1.size), a2.later hb, a3.later hb⟩)
  exact ⟨I, F, i0, h0, fun i => (hR i).2.1.at, hR, hcl⟩

/-- Behind the last turn: two pairs, the first 0. -/
theorem pairZ_mk {wn wg : World} {g : Cf} {ga : Option Addr} {gc : Nat} (hbn : Below wn.heap.size wn wg) (hKg : Blk wg wn.heap.size 24 (confBox g ga gc)) {y : Int} (hy : -9223372036854775808 ≤ y ∧ y ≤ 9223372036854775807) (cs : Array Value) (t : TypeId) :
    Below wn.heap.size wn (((wg.setCell ⟨wn.heap.size, 5, none⟩ (.slice (some ⟨wg.heap.size + 1, 0, none⟩) 2 2)).alloc (.cells cs t)).alloc (.cells #[.int .i64 0, .int .i64 y] 3)).drew ∧
    Blk (((wg.setCell ⟨wn.heap.size, 5, none⟩ (.slice (some ⟨wg.heap.size + 1, 0, none⟩) 2 2)).alloc (.cells cs t)).alloc (.cells #[.int .i64 0, .int .i64 y] 3)).drew wn.heap.size 24 (confBox (⟨g.N, g.Pi, g.E, g.G, g.F, [0, y]⟩ : Cf) (some ⟨wg.heap.size + 1, 0, none⟩) 2) ∧
    Row (((wg.setCell ⟨wn.heap.size, 5, none⟩ (.slice (some ⟨wg.heap.size + 1, 0, none⟩) 2 2)).alloc (.cells cs t)).alloc (.cells #[.int .i64 0, .int .i64 y] 3)).drew (some ⟨wg.heap.size + 1, 0, none⟩) [0, y] := by
  have hb1 := hbn.setCell (p := ⟨wn.heap.size, 5, none⟩) (Nat.le_refl _) (.slice (some ⟨wg.heap.size + 1, 0, none⟩) 2 2)
  have hk1 : Blk (wg.setCell ⟨wn.heap.size, 5, none⟩ (.slice (some ⟨wg.heap.size + 1, 0, none⟩) 2 2)) wn.heap.size 24 (confBox (⟨g.N, g.Pi, g.E, g.G, g.F, [0, y]⟩ : Cf) (some ⟨wg.heap.size + 1, 0, none⟩) 2) := hKg.set 5 _
  have hr := Row.made ((wg.setCell ⟨wn.heap.size, 5, none⟩ (.slice (some ⟨wg.heap.size + 1, 0, none⟩) 2 2)).alloc (.cells cs t)) [0, y] 3 (by simp) (by simp; exact hy)
  have hs : ((wg.setCell ⟨wn.heap.size, 5, none⟩ (.slice (some ⟨wg.heap.size + 1, 0, none⟩) 2 2)).alloc (.cells cs t)).heap.size = wg.heap.size + 1 := by simp [World.setCell]
  rw [hs] at hr
  exact ⟨((hb1.alloc hb1.size _).alloc (hb1.alloc hb1.size _).size _).drew, (hk1.alloc _).alloc _, hr.drew1⟩

set_option maxHeartbeats 12800000 in
theorem confChecks_walk (c : Cf) (a : Option Addr) (cap : Nat) (wh n : Int) (w : World) (hbd : Bnds w) (hrow : Row w a c.P) (iN : inI c.N) (iP : inI c.Pi) (iE : inI c.E) (iG : inI c.G) (iF : inI c.F) (r1 : -9223372036854775808 ≤ wh) (r2 : wh ≤ 9223372036854775807) (r3 : -9223372036854775808 ≤ n) (r4 : n ≤ 9223372036854775807) :
    Calls Tryd.prog 3 #[.agg #[.int .i64 c.N, .int .i64 c.Pi, .int .i64 c.E, .int .i64 c.G, .int .i64 c.F, .slice a c.P.length cap], .int .i64 wh, .int .i64 n] w fun e w' => e = .returned (.bool true) ∧ Below w.heap.size w w' := by
  by_cases hl : 10 < c.P.length
  · have d : decide ((10 : Int) < (c.P.length : Int)) = true := by simp; omega
    go_enter Tryd.func3, Tryd.ntmps3
    go_wp2_with fail
    refine (known3_any _ (hbd.later (alloc_below _ _))).mono ?_
    rintro e wn ⟨rfl, hb⟩
    obtain ⟨hB, hK, hZ⟩ := boxed hb
    have hQ := hK.at
    clear hb
    go_wp2
    go_ret
    exact ⟨rfl, hB⟩
  have d : decide ((10 : Int) < (c.P.length : Int)) = false := by simp; omega
  go_enter Tryd.func3, Tryd.ntmps3
  go_wp2_with fail
  refine (known3_any _ (hbd.later (alloc_below _ _))).mono ?_
  rintro e wn ⟨rfl, hb⟩
  obtain ⟨hB, hK, hZ⟩ := boxed hb
  have hQ := hK.at
  clear hb
  go_wp2_with fail
  refine (make_any c a cap _ (hrow.later hB)).mono ?_
  rintro e wn ⟨ga, gc, rfl, hrg, hfg, hb⟩
  clear hQ
  obtain ⟨hB, hK, hZ⟩ := boxed_on hB hK hb
  have hQ := hK.at
  clear hb
  clear hfg hQ d
  have hok := makeC_ok c
  generalize makeC c = g at hok hrg ⊢
  have n6 := hok.n6; have n12 := hok.n12; have e0 := hok.e0; have e1 := hok.e1; have g0 := hok.g0; have g1 := hok.g1; have p0 := hok.p0; have p1 := hok.p1
  have hbn : Below wn.heap.size wn (wn.alloc (.cells #[.int .i64 g.N, .int .i64 g.Pi, .int .i64 g.E, .int .i64 g.G, .int .i64 g.F, .slice ga g.P.length gc] 24)) := alloc_below _ _
  have hKg : Blk (wn.alloc (.cells #[.int .i64 g.N, .int .i64 g.Pi, .int .i64 g.E, .int .i64 g.G, .int .i64 g.F, .slice ga g.P.length gc] 24)) wn.heap.size 24 (confBox g ga gc) := Blk.new wn _ _
  have hrw := hrow.later hB
  have hbw := hbd.later hB
  have dc : (checkI c != checkI c) = false := by simp
  have HG := Lib.hid (fun (W : World) (h1 : Bnds W) (h2 : Row W ga g.P) => ccheck_any g ga gc W h1 h2)
  rw [hok.check] at HG
  go_wp2_with fail
  generalize wn.alloc (.cells #[.int .i64 g.N, .int .i64 g.Pi, .int .i64 g.E, .int .i64 g.G, .int .i64 g.F, .slice ga g.P.length gc] 24) = wg at hbn hKg ⊢
  have hQ := (hK.later hbn).at
  obtain ⟨I, F, i0, h0, hFg, hFR, hFcl⟩ := ck_class hbn hKg (hrg.later hbn)
  unfold confBox at hFg
  have HFR := Lib.hid hFR
  have HFC := Lib.hid hFcl
  have H0 := Lib.hid h0
  clear hFR hFcl h0
  haveI : Nonempty I := ⟨i0⟩
  have hFc := fun i => (hK.later (HFR.out i).1).at
  go_wp2_with fail
  refine wp_region_class F i0 H0.out (by kernel_rfl) (by kernel_rfl) ?_
  repeat (go_big_quiet_step ((first | (go_at_call_of 11 (Value.agg #[Value.int IntKind.i64 c.N, Value.int IntKind.i64 c.Pi, Value.int IntKind.i64 c.E, Value.int IntKind.i64 c.G, Value.int IntKind.i64 c.F, Value.slice a c.P.length cap]); exact class_call HFC.out (ccheck_any c a cap _ (hbw.later (HFR.out _).1) (hrw.later (HFR.out _).1))) | (go_at_call_of 12 (Value.agg #[Value.int IntKind.i64 c.N, Value.int IntKind.i64 c.Pi, Value.int IntKind.i64 c.E, Value.int IntKind.i64 c.G, Value.int IntKind.i64 c.F, Value.slice a c.P.length cap]); exact class_call HFC.out (rcheck_any c a cap _ (hrw.later (HFR.out _).1))) | (go_at_call_of 11 (Value.agg #[Value.int IntKind.i64 g.N, Value.int IntKind.i64 g.Pi, Value.int IntKind.i64 g.E, Value.int IntKind.i64 g.G, Value.int IntKind.i64 g.F, Value.slice ga g.P.length gc]); exact class_call HFC.out (HG.out _ (hbw.later (HFR.out _).1) (HFR.out _).2.2)))))
  refine wpQuiet_nil ?_
  intro _ hw'
  obtain ⟨iq, hw''⟩ := hw'
  subst hw''
  clear hbn hKg hFg hFc HFC H0 hQ
  obtain ⟨hbn, hKg, _⟩ := HFR.out iq
  clear HFR HG dc
  generalize F iq = wg at *
  have hQg := hKg.at
  unfold confBox at hQg
  have hfz := hKg.frozen
  go_wp2_with fail
  refine (within3_any wh 8 _ (by omega) (by omega)).mono ?_
  rintro e wl ⟨rfl, rfl⟩
  rcases (by omega : wh % 8 = 0 ∨ wh % 8 = 1 ∨ wh % 8 = 2 ∨ wh % 8 = 3 ∨ wh % 8 = 4 ∨ wh % 8 = 5 ∨ wh % 8 = 6 ∨ wh % 8 = 7) with hv | hv | hv | hv | hv | hv | hv | hv
  all_goals
    rw [hv]
    clear hv
  · have hbz := hbn.setCell (p := ⟨wn.heap.size, 0, none⟩) (Nat.le_refl _) (.int .i64 n)
    have hKz : Blk (wg.setCell ⟨wn.heap.size, 0, none⟩ (.int .i64 n)) wn.heap.size 24 (confBox (⟨n, g.Pi, g.E, g.G, g.F, g.P⟩ : Cf) ga gc) := hKg.set 0 (.int .i64 n)
    have hrz := hrg.later hbz
    obtain ⟨I, F, i0, h0, hFg, hFR, hFcl⟩ := ck_class hbz hKz hrz
    unfold confBox at hFg
    have HFR := Lib.hid hFR
    have HFC := Lib.hid hFcl
    have H0 := Lib.hid h0
    clear hFR hFcl h0
    haveI : Nonempty I := ⟨i0⟩
    go_wp2_with fail
    refine wp_region_class F i0 H0.out (by kernel_rfl) (by kernel_rfl) ?_
    repeat (go_big_quiet_step ((first | (go_at_call 11; exact class_call HFC.out (ccheck_any (⟨n, g.Pi, g.E, g.G, g.F, g.P⟩ : Cf) ga gc _ (hbw.later (HFR.out _).1) (HFR.out _).2.2)) | (go_at_call 12; exact class_call HFC.out (rcheck_any (⟨n, g.Pi, g.E, g.G, g.F, g.P⟩ : Cf) ga gc _ (HFR.out _).2.2)))))
    refine wpQuiet_nil ?_
    intro _ hw'
    obtain ⟨iq, hw''⟩ := hw'
    subst hw''
    go_wp2
    go_ret
    exact ⟨rfl, hB.trans ((HFR.out iq).1.mono hB.size)⟩
  · have hbz := hbn.setCell (p := ⟨wn.heap.size, 2, none⟩) (Nat.le_refl _) (.int .i64 n)
    have hKz : Blk (wg.setCell ⟨wn.heap.size, 2, none⟩ (.int .i64 n)) wn.heap.size 24 (confBox (⟨g.N, g.Pi, n, g.G, g.F, g.P⟩ : Cf) ga gc) := hKg.set 2 (.int .i64 n)
    have hrz := hrg.later hbz
    obtain ⟨I, F, i0, h0, hFg, hFR, hFcl⟩ := ck_class hbz hKz hrz
    unfold confBox at hFg
    have HFR := Lib.hid hFR
    have HFC := Lib.hid hFcl
    have H0 := Lib.hid h0
    clear hFR hFcl h0
    haveI : Nonempty I := ⟨i0⟩
    go_wp2_with fail
    refine wp_region_class F i0 H0.out (by kernel_rfl) (by kernel_rfl) ?_
    repeat (go_big_quiet_step ((first | (go_at_call 11; exact class_call HFC.out (ccheck_any (⟨g.N, g.Pi, n, g.G, g.F, g.P⟩ : Cf) ga gc _ (hbw.later (HFR.out _).1) (HFR.out _).2.2)) | (go_at_call 12; exact class_call HFC.out (rcheck_any (⟨g.N, g.Pi, n, g.G, g.F, g.P⟩ : Cf) ga gc _ (HFR.out _).2.2)))))
    refine wpQuiet_nil ?_
    intro _ hw'
    obtain ⟨iq, hw''⟩ := hw'
    subst hw''
    go_wp2
    go_ret
    exact ⟨rfl, hB.trans ((HFR.out iq).1.mono hB.size)⟩
  · have hbz := hbn.setCell (p := ⟨wn.heap.size, 3, none⟩) (Nat.le_refl _) (.int .i64 n)
    have hKz : Blk (wg.setCell ⟨wn.heap.size, 3, none⟩ (.int .i64 n)) wn.heap.size 24 (confBox (⟨g.N, g.Pi, g.E, n, g.F, g.P⟩ : Cf) ga gc) := hKg.set 3 (.int .i64 n)
    have hrz := hrg.later hbz
    obtain ⟨I, F, i0, h0, hFg, hFR, hFcl⟩ := ck_class hbz hKz hrz
    unfold confBox at hFg
    have HFR := Lib.hid hFR
    have HFC := Lib.hid hFcl
    have H0 := Lib.hid h0
    clear hFR hFcl h0
    haveI : Nonempty I := ⟨i0⟩
    go_wp2_with fail
    refine wp_region_class F i0 H0.out (by kernel_rfl) (by kernel_rfl) ?_
    repeat (go_big_quiet_step ((first | (go_at_call 11; exact class_call HFC.out (ccheck_any (⟨g.N, g.Pi, g.E, n, g.F, g.P⟩ : Cf) ga gc _ (hbw.later (HFR.out _).1) (HFR.out _).2.2)) | (go_at_call 12; exact class_call HFC.out (rcheck_any (⟨g.N, g.Pi, g.E, n, g.F, g.P⟩ : Cf) ga gc _ (HFR.out _).2.2)))))
    refine wpQuiet_nil ?_
    intro _ hw'
    obtain ⟨iq, hw''⟩ := hw'
    subst hw''
    go_wp2
    go_ret
    exact ⟨rfl, hB.trans ((HFR.out iq).1.mono hB.size)⟩
  · have m0 : 0 ≤ n % 2 := by omega
    have m1 : n % 2 < 2 := by omega
    have z1 : IntKind.i64.wrap (g.E + g.G) = g.E + g.G := wrap_in _ (by omega) (by omega)
    have z2 : IntKind.i64.wrap (g.E + g.G + 1) = g.E + g.G + 1 := wrap_in _ (by omega) (by omega)
    have z3 : IntKind.i64.wrap (4 * (g.E + g.G + 1)) = 4 * (g.E + g.G + 1) := wrap_in _ (by omega) (by omega)
    have z4 : IntKind.i64.wrap (4 * (g.E + g.G + 1) - 1) = 4 * (g.E + g.G + 1) - 1 := wrap_in _ (by omega) (by omega)
    have z5 : IntKind.i64.wrap (4 * (g.E + g.G + 1) - 1 + n % 2) = 4 * (g.E + g.G + 1) - 1 + n % 2 := wrap_in _ (by omega) (by omega)
    have t2 := hQg 2
    have t3 := hQg 3
    simp at t2 t3
    go_wp2_with fail
    go_region_held3 (fun W => W.cell? ⟨wn.heap.size, 2, none⟩ = some (.int .i64 g.E) ∧ W.cell? ⟨wn.heap.size, 3, none⟩ = some (.int .i64 g.G)) (first | (go_keep; done) | exact ⟨keep_set t2 (by simp), keep_set t3 (by simp)⟩)
      (first | (go_at_call 13; refine (within3_any _ _ _ ?_ ?_).mono ?_; omega; omega; rintro e wl ⟨rfl, rfl⟩))
    clear z1 z2 z3 z4 z5
    have hbz := (hbn.setCell (p := ⟨wn.heap.size, 1, none⟩) (Nat.le_refl _) (.int .i64 (4 * (g.E + g.G + 1) - 1 + n % 2))).drew
    have hKz : Blk (wg.setCell ⟨wn.heap.size, 1, none⟩ (.int .i64 (4 * (g.E + g.G + 1) - 1 + n % 2))).drew wn.heap.size 24 (confBox (⟨g.N, (4 * (g.E + g.G + 1) - 1 + n % 2), g.E, g.G, g.F, g.P⟩ : Cf) ga gc) := hKg.set 1 (.int .i64 (4 * (g.E + g.G + 1) - 1 + n % 2))
    have hrz := hrg.later hbz
    obtain ⟨I, F, i0, h0, hFg, hFR, hFcl⟩ := ck_class hbz hKz hrz
    unfold confBox at hFg
    have HFR := Lib.hid hFR
    have HFC := Lib.hid hFcl
    have H0 := Lib.hid h0
    clear hFR hFcl h0
    haveI : Nonempty I := ⟨i0⟩
    go_wp2_with fail
    refine wp_region_class F i0 H0.out (by kernel_rfl) (by kernel_rfl) ?_
    repeat (go_big_quiet_step ((first | (go_at_call 11; exact class_call HFC.out (ccheck_any (⟨g.N, (4 * (g.E + g.G + 1) - 1 + n % 2), g.E, g.G, g.F, g.P⟩ : Cf) ga gc _ (hbw.later (HFR.out _).1) (HFR.out _).2.2)) | (go_at_call 12; exact class_call HFC.out (rcheck_any (⟨g.N, (4 * (g.E + g.G + 1) - 1 + n % 2), g.E, g.G, g.F, g.P⟩ : Cf) ga gc _ (HFR.out _).2.2)))))
    refine wpQuiet_nil ?_
    intro _ hw'
    obtain ⟨iq, hw''⟩ := hw'
    subst hw''
    go_wp2
    go_ret
    exact ⟨rfl, hB.trans ((HFR.out iq).1.mono hB.size)⟩
  · have m0 : 0 ≤ n % 2 := by omega
    have m1 : n % 2 < 2 := by omega
    go_wp2_with fail
    refine (within3_any n 2 _ (by omega) (by omega)).mono ?_
    rintro e wl ⟨rfl, rfl⟩
    have hbz := hbn.setCell (p := ⟨wn.heap.size, 1, none⟩) (Nat.le_refl _) (.int .i64 (10000 + n % 2))
    have hKz : Blk (wg.setCell ⟨wn.heap.size, 1, none⟩ (.int .i64 (10000 + n % 2))) wn.heap.size 24 (confBox (⟨g.N, (10000 + n % 2), g.E, g.G, g.F, g.P⟩ : Cf) ga gc) := hKg.set 1 (.int .i64 (10000 + n % 2))
    have hrz := hrg.later hbz
    obtain ⟨I, F, i0, h0, hFg, hFR, hFcl⟩ := ck_class hbz hKz hrz
    unfold confBox at hFg
    have HFR := Lib.hid hFR
    have HFC := Lib.hid hFcl
    have H0 := Lib.hid h0
    clear hFR hFcl h0
    haveI : Nonempty I := ⟨i0⟩
    go_wp2_with fail
    refine wp_region_class F i0 H0.out (by kernel_rfl) (by kernel_rfl) ?_
    repeat (go_big_quiet_step ((first | (go_at_call 11; exact class_call HFC.out (ccheck_any (⟨g.N, (10000 + n % 2), g.E, g.G, g.F, g.P⟩ : Cf) ga gc _ (hbw.later (HFR.out _).1) (HFR.out _).2.2)) | (go_at_call 12; exact class_call HFC.out (rcheck_any (⟨g.N, (10000 + n % 2), g.E, g.G, g.F, g.P⟩ : Cf) ga gc _ (HFR.out _).2.2)))))
    refine wpQuiet_nil ?_
    intro _ hw'
    obtain ⟨iq, hw''⟩ := hw'
    subst hw''
    go_wp2
    go_ret
    exact ⟨rfl, hB.trans ((HFR.out iq).1.mono hB.size)⟩
  · go_wp2_with fail
    refine (within3_any n 4 _ (by omega) (by omega)).mono ?_
    rintro e wl ⟨rfl, rfl⟩
    have hKa := hKg.alloc (.cells #[.int .i64 (-1), .int .i64 65535, .int .i64 65536, .int .i64 n] 3)
    have hba := hbn.alloc hbn.size (.cells #[.int .i64 (-1), .int .i64 65535, .int .i64 65536, .int .i64 n] 3)
    have hfa := hKa.frozen
    have hQa := hKa.at
    unfold confBox at hQa
    have hlt := hKg.lt
    rcases (by omega : n % 4 = 0 ∨ n % 4 = 1 ∨ n % 4 = 2 ∨ n % 4 = 3) with hj | hj | hj | hj
    all_goals
      rw [hj]
      clear hj
    · have hbz := (hbn.setCell (p := ⟨wn.heap.size, 4, none⟩) (Nat.le_refl _) (.int .i64 (-1))).alloc (hbn.setCell (p := ⟨wn.heap.size, 4, none⟩) (Nat.le_refl _) (.int .i64 (-1))).size (.cells #[.int .i64 (-1), .int .i64 65535, .int .i64 65536, .int .i64 n] 3)
      have hKz : Blk ((wg.setCell ⟨wn.heap.size, 4, none⟩ (.int .i64 (-1))).alloc (.cells #[.int .i64 (-1), .int .i64 65535, .int .i64 65536, .int .i64 n] 3)) wn.heap.size 24 (confBox (⟨g.N, g.Pi, g.E, g.G, (-1), g.P⟩ : Cf) ga gc) := (hKg.set 4 (.int .i64 (-1))).alloc _
      have hrz := hrg.later hbz
      obtain ⟨I, F, i0, h0, hFg, hFR, hFcl⟩ := ck_class hbz hKz hrz
      unfold confBox at hFg
      have HFR := Lib.hid hFR
      have HFC := Lib.hid hFcl
      have H0 := Lib.hid h0
      clear hFR hFcl h0
      haveI : Nonempty I := ⟨i0⟩
      go_wp2_with fail
      refine wp_region_class F i0 H0.out (by kernel_rfl) (by kernel_rfl) ?_
      repeat (go_big_quiet_step ((first | (go_at_call 11; exact class_call HFC.out (ccheck_any (⟨g.N, g.Pi, g.E, g.G, (-1), g.P⟩ : Cf) ga gc _ (hbw.later (HFR.out _).1) (HFR.out _).2.2)) | (go_at_call 12; exact class_call HFC.out (rcheck_any (⟨g.N, g.Pi, g.E, g.G, (-1), g.P⟩ : Cf) ga gc _ (HFR.out _).2.2)))))
      refine wpQuiet_nil ?_
      intro _ hw'
      obtain ⟨iq, hw''⟩ := hw'
      subst hw''
      go_wp2
      go_ret
      exact ⟨rfl, hB.trans ((HFR.out iq).1.mono hB.size)⟩
    · have hbz := (hbn.setCell (p := ⟨wn.heap.size, 4, none⟩) (Nat.le_refl _) (.int .i64 65535)).alloc (hbn.setCell (p := ⟨wn.heap.size, 4, none⟩) (Nat.le_refl _) (.int .i64 65535)).size (.cells #[.int .i64 (-1), .int .i64 65535, .int .i64 65536, .int .i64 n] 3)
      have hKz : Blk ((wg.setCell ⟨wn.heap.size, 4, none⟩ (.int .i64 65535)).alloc (.cells #[.int .i64 (-1), .int .i64 65535, .int .i64 65536, .int .i64 n] 3)) wn.heap.size 24 (confBox (⟨g.N, g.Pi, g.E, g.G, 65535, g.P⟩ : Cf) ga gc) := (hKg.set 4 (.int .i64 65535)).alloc _
      have hrz := hrg.later hbz
      obtain ⟨I, F, i0, h0, hFg, hFR, hFcl⟩ := ck_class hbz hKz hrz
      unfold confBox at hFg
      have HFR := Lib.hid hFR
      have HFC := Lib.hid hFcl
      have H0 := Lib.hid h0
      clear hFR hFcl h0
      haveI : Nonempty I := ⟨i0⟩
      go_wp2_with fail
      refine wp_region_class F i0 H0.out (by kernel_rfl) (by kernel_rfl) ?_
      repeat (go_big_quiet_step ((first | (go_at_call 11; exact class_call HFC.out (ccheck_any (⟨g.N, g.Pi, g.E, g.G, 65535, g.P⟩ : Cf) ga gc _ (hbw.later (HFR.out _).1) (HFR.out _).2.2)) | (go_at_call 12; exact class_call HFC.out (rcheck_any (⟨g.N, g.Pi, g.E, g.G, 65535, g.P⟩ : Cf) ga gc _ (HFR.out _).2.2)))))
      refine wpQuiet_nil ?_
      intro _ hw'
      obtain ⟨iq, hw''⟩ := hw'
      subst hw''
      go_wp2
      go_ret
      exact ⟨rfl, hB.trans ((HFR.out iq).1.mono hB.size)⟩
    · have hbz := (hbn.setCell (p := ⟨wn.heap.size, 4, none⟩) (Nat.le_refl _) (.int .i64 65536)).alloc (hbn.setCell (p := ⟨wn.heap.size, 4, none⟩) (Nat.le_refl _) (.int .i64 65536)).size (.cells #[.int .i64 (-1), .int .i64 65535, .int .i64 65536, .int .i64 n] 3)
      have hKz : Blk ((wg.setCell ⟨wn.heap.size, 4, none⟩ (.int .i64 65536)).alloc (.cells #[.int .i64 (-1), .int .i64 65535, .int .i64 65536, .int .i64 n] 3)) wn.heap.size 24 (confBox (⟨g.N, g.Pi, g.E, g.G, 65536, g.P⟩ : Cf) ga gc) := (hKg.set 4 (.int .i64 65536)).alloc _
      have hrz := hrg.later hbz
      obtain ⟨I, F, i0, h0, hFg, hFR, hFcl⟩ := ck_class hbz hKz hrz
      unfold confBox at hFg
      have HFR := Lib.hid hFR
      have HFC := Lib.hid hFcl
      have H0 := Lib.hid h0
      clear hFR hFcl h0
      haveI : Nonempty I := ⟨i0⟩
      go_wp2_with fail
      refine wp_region_class F i0 H0.out (by kernel_rfl) (by kernel_rfl) ?_
      repeat (go_big_quiet_step ((first | (go_at_call 11; exact class_call HFC.out (ccheck_any (⟨g.N, g.Pi, g.E, g.G, 65536, g.P⟩ : Cf) ga gc _ (hbw.later (HFR.out _).1) (HFR.out _).2.2)) | (go_at_call 12; exact class_call HFC.out (rcheck_any (⟨g.N, g.Pi, g.E, g.G, 65536, g.P⟩ : Cf) ga gc _ (HFR.out _).2.2)))))
      refine wpQuiet_nil ?_
      intro _ hw'
      obtain ⟨iq, hw''⟩ := hw'
      subst hw''
      go_wp2
      go_ret
      exact ⟨rfl, hB.trans ((HFR.out iq).1.mono hB.size)⟩
    · have hbz := (hbn.setCell (p := ⟨wn.heap.size, 4, none⟩) (Nat.le_refl _) (.int .i64 n)).alloc (hbn.setCell (p := ⟨wn.heap.size, 4, none⟩) (Nat.le_refl _) (.int .i64 n)).size (.cells #[.int .i64 (-1), .int .i64 65535, .int .i64 65536, .int .i64 n] 3)
      have hKz : Blk ((wg.setCell ⟨wn.heap.size, 4, none⟩ (.int .i64 n)).alloc (.cells #[.int .i64 (-1), .int .i64 65535, .int .i64 65536, .int .i64 n] 3)) wn.heap.size 24 (confBox (⟨g.N, g.Pi, g.E, g.G, n, g.P⟩ : Cf) ga gc) := (hKg.set 4 (.int .i64 n)).alloc _
      have hrz := hrg.later hbz
      obtain ⟨I, F, i0, h0, hFg, hFR, hFcl⟩ := ck_class hbz hKz hrz
      unfold confBox at hFg
      have HFR := Lib.hid hFR
      have HFC := Lib.hid hFcl
      have H0 := Lib.hid h0
      clear hFR hFcl h0
      haveI : Nonempty I := ⟨i0⟩
      go_wp2_with fail
      refine wp_region_class F i0 H0.out (by kernel_rfl) (by kernel_rfl) ?_
      repeat (go_big_quiet_step ((first | (go_at_call 11; exact class_call HFC.out (ccheck_any (⟨g.N, g.Pi, g.E, g.G, n, g.P⟩ : Cf) ga gc _ (hbw.later (HFR.out _).1) (HFR.out _).2.2)) | (go_at_call 12; exact class_call HFC.out (rcheck_any (⟨g.N, g.Pi, g.E, g.G, n, g.P⟩ : Cf) ga gc _ (HFR.out _).2.2)))))
      refine wpQuiet_nil ?_
      intro _ hw'
      obtain ⟨iq, hw''⟩ := hw'
      subst hw''
      go_wp2
      go_ret
      exact ⟨rfl, hB.trans ((HFR.out iq).1.mono hB.size)⟩
  · have hlt := hKg.lt
    have hKa := hKg.alloc (.cells #[] 3)
    have hba := hbn.alloc hbn.size (.cells #[] 3)
    have hQa := hKa.at
    unfold confBox at hQa
    have hra := hrg.later hba
    have hown : OwnI wg.heap.size (wg.alloc (.cells #[] 3)) (.slice (some ⟨wg.heap.size, 0, none⟩) 0 0) [] := OwnI.lit wg [] wg.heap.size (Nat.le_refl _) (by simp)
    have p3 := hok.len
    have hba2 := hbn.size
    have HYL := Lib.hid (show (g.P ++ [0, 0]).length ≤ 5 by simp; omega)
    have HYB := Lib.hid (show ∀ z ∈ g.P ++ [0, 0], -9223372036854775808 ≤ z ∧ z ≤ 9223372036854775807 by
      intro z hz
      rcases List.mem_append.1 hz with h | h
      · have := hok.all z h
        omega
      · simp at h
        omega)
    go_wp2_with (first
      | (at_builtin; refine wpList_appR _ rfl _ _ rfl wg.heap.size (.slice (some ⟨wg.heap.size, 0, none⟩) 0 0) [] rfl hown ga g.P gc rfl hra (by simp) (by omega) (by simp) ?_; intro v1 w1 ho1 hg1; obtain ⟨av, cv, rfl⟩ := ho1.form; rw [List.nil_append] at ho1; have k1 := hKa.grown hg1 (fun e => by simp [Value.ownBlock] at e; omega); have hb1 := below_grown hba hba.size hg1 (fun x hx => by simp [Value.ownBlock] at hx; omega))
      | (at_builtin; refine wpList_appR _ rfl _ _ rfl wg.heap.size (.slice av g.P.length cv) g.P rfl (ho1.later (alloc_below _ _)) (some ⟨w1.heap.size, 0, none⟩) [0, 0] 2 rfl (Row.made w1 [0, 0] _ (by simp) (by simp)) (by omega) (by simp) (by simp; have := hg1.size; simp at this; omega) ?_; intro v2 w2 ho2 hg2; obtain ⟨av2, cv2, rfl⟩ := ho2.form; generalize g.P ++ [0, 0] = ys at ho2 HYL HYB ⊢; have k2 := (k1.alloc _).grown hg2 (fun e => by have := (ho1.lt _ e.symm).1; omega); have hb2 := below_grown (hb1.alloc hb1.size _) (hb1.alloc hb1.size _).size hg2 (fun x hx => by have := (ho1.lt _ hx).1; omega); have q2 := k2.at 5; have f2 := k2.frozen 5))
    have hbz := hb2.setCell (p := ⟨wn.heap.size, 5, none⟩) (Nat.le_refl _) (.slice av2 ys.length cv2)
    have hKz : Blk (w2.setCell ⟨wn.heap.size, 5, none⟩ (.slice av2 ys.length cv2)) wn.heap.size 24 (confBox (⟨g.N, g.Pi, g.E, g.G, g.F, ys⟩ : Cf) av2 cv2) := k2.set 5 (.slice av2 ys.length cv2)
    have hrz := (ho2.far ⟨wn.heap.size, 5, none⟩ (.slice av2 ys.length cv2) hlt).row (by have := HYL.out; omega) HYB.out
    obtain ⟨I, F, i0, h0, hFg, hFR, hFcl⟩ := ck_class hbz hKz hrz
    unfold confBox at hFg
    have HFR := Lib.hid hFR
    have HFC := Lib.hid hFcl
    have H0 := Lib.hid h0
    clear hFR hFcl h0
    haveI : Nonempty I := ⟨i0⟩
    go_wp2_with fail
    refine wp_region_class F i0 H0.out (by kernel_rfl) (by kernel_rfl) ?_
    repeat (go_big_quiet_step ((first | (go_at_call 11; exact class_call HFC.out (ccheck_any (⟨g.N, g.Pi, g.E, g.G, g.F, ys⟩ : Cf) av2 cv2 _ (hbw.later (HFR.out _).1) (HFR.out _).2.2)) | (go_at_call 12; exact class_call HFC.out (rcheck_any (⟨g.N, g.Pi, g.E, g.G, g.F, ys⟩ : Cf) av2 cv2 _ (HFR.out _).2.2)))))
    refine wpQuiet_nil ?_
    intro _ hw'
    obtain ⟨iq, hw''⟩ := hw'
    subst hw''
    go_wp2
    go_ret
    exact ⟨rfl, hB.trans ((HFR.out iq).1.mono hB.size)⟩
  · have hlt := hKg.lt
    have z1 : IntKind.i64.wrap (g.N - 1) = g.N - 1 := wrap_in _ (by omega) (by omega)
    have t0 := hQg 0
    simp at t0
    obtain ⟨j, hj, hj4⟩ : ∃ j : Nat, n % 4 = (j : Int) ∧ j < 4 := ⟨(n % 4).toNat, by omega, by omega⟩
    have HJ := Lib.hid hj
    clear hj
    obtain ⟨y, hy, hyc⟩ : ∃ y : Int, (-9223372036854775808 ≤ y ∧ y ≤ 9223372036854775807) ∧ ∀ W : World, (W.alloc (.cells #[.int .i64 (-2), .int .i64 g.N, .int .i64 (g.N - 1), .int .i64 n] 3)).cell? ⟨W.heap.size, j, none⟩ = some (.int .i64 y) := by
      have hc := fun W : World => (Blk.new W 3 #[.int .i64 (-2), .int .i64 g.N, .int .i64 (g.N - 1), .int .i64 n]).at j
      rcases (by omega : j = 0 ∨ j = 1 ∨ j = 2 ∨ j = 3) with rfl | rfl | rfl | rfl
      · exact ⟨-2, by omega, fun W => (hc W).trans rfl⟩
      · exact ⟨g.N, by omega, fun W => (hc W).trans rfl⟩
      · exact ⟨g.N - 1, by omega, fun W => (hc W).trans rfl⟩
      · exact ⟨n, by omega, fun W => (hc W).trans rfl⟩
    have HY := Lib.hid hy
    clear hy
    have j0 : (0 : Int) ≤ (j : Int) := by omega
    have j1 : (j : Int) < 4 := by omega
    have hyd := hyc wg.drew
    have hye := hyc wg
    go_wp2_with fail
    go_region_law (go_simp; go_at_call 13; refine (within3_any n 4 _ (by omega) (by omega)).mono ?_; rintro e wl ⟨rfl, rfl⟩; rw [HJ.out])
    all_goals
      obtain ⟨hbz, hKz, hrz⟩ := pairZ_mk hbn hKg HY.out #[.int .i64 (-2), .int .i64 g.N, .int .i64 (g.N - 1), .int .i64 n] 3
      obtain ⟨I, F, i0, h0, hFg, hFR, hFcl⟩ := ck_class hbz hKz hrz
      unfold confBox at hFg
      have HFR := Lib.hid hFR
      have HFC := Lib.hid hFcl
      have H0 := Lib.hid h0
      clear hFR hFcl h0
      haveI : Nonempty I := ⟨i0⟩
      go_wp2_with fail
      refine wp_region_class F i0 H0.out (by kernel_rfl) (by kernel_rfl) ?_
      repeat (go_big_quiet_step ((first | (go_at_call 11; exact class_call HFC.out (ccheck_any (⟨g.N, g.Pi, g.E, g.G, g.F, [0, y]⟩ : Cf) (some ⟨wg.heap.size + 1, 0, none⟩) 2 _ (hbw.later (HFR.out _).1) (HFR.out _).2.2)) | (go_at_call 12; exact class_call HFC.out (rcheck_any (⟨g.N, g.Pi, g.E, g.G, g.F, [0, y]⟩ : Cf) (some ⟨wg.heap.size + 1, 0, none⟩) 2 _ (HFR.out _).2.2)))))
      refine wpQuiet_nil ?_
      intro _ hw'
      obtain ⟨iq, hw''⟩ := hw'
      subst hw''
      go_wp2
      go_ret
      exact ⟨rfl, hB.trans ((HFR.out iq).1.mono hB.size)⟩

end Go.Proofs.YtpbnpghdhjminaaDoor

/-
  GuardSteps' walk.
-/
import Derived.Test.YtfpbijcgbknklaaLaw80
import Derived.Test.YtfpbijcgbknklaaSlots3
namespace Go.Proofs.Ytfpbijcgbknklaa
open Go.RowKit Plait
set_option maxRecDepth 100000
set_option linter.unusedVariables false
set_option linter.unusedSimpArgs false

set_option maxHeartbeats 3200000 in
theorem guardSteps_walk (c : Cf) (a : Option Addr) (cap : Nat) (x9 y9 z9 : Int) (w : World) (hrow : Row w a c.P) (iN : inI c.N) (iP : inI c.Pi) (iE : inI c.E) (iG : inI c.G) (iF : inI c.F)
    (x1 : -9223372036854775808 ≤ x9) (x2 : x9 ≤ 9223372036854775807) (y1 : -9223372036854775808 ≤ y9) (y2 : y9 ≤ 9223372036854775807) (z1 : -9223372036854775808 ≤ z9) (z2 : z9 ≤ 9223372036854775807) :
    Calls Try.prog 6 #[.agg #[.int .i64 c.N, .int .i64 c.Pi, .int .i64 c.E, .int .i64 c.G, .int .i64 c.F, .slice a c.P.length cap], .int .i64 x9, .int .i64 y9, .int .i64 z9] w fun e w' => e = .returned (.bool true) ∧ Below w.heap.size w w' := by
  have hB1 : Below w.heap.size w (w.alloc (.cells #[.int .i64 c.N, .int .i64 c.Pi, .int .i64 c.E, .int .i64 c.G, .int .i64 c.F, .slice a c.P.length cap] 24)) := alloc_below w _
  have k_c : Blk (w.alloc (.cells #[.int .i64 c.N, .int .i64 c.Pi, .int .i64 c.E, .int .i64 c.G, .int .i64 c.F, .slice a c.P.length cap] 24)) w.heap.size 24 (confBox c a cap) := Blk.newAt _ _ rfl
  have hB := hB1
  clear hB1
  go_enter Try.func6, Try.ntmps6
  go_wp2_with fail
  refine (known8_any _).mono ?_
  rintro e wn ⟨rfl, hb⟩
  replace hB := hB.trans (hb.mono hB.size)
  replace k_c := k_c.later hb
  clear hb
  have qC := k_c.at
  unfold confBox at qC
  go_wp2_with fail
  refine (make_any2 c a cap _ (hrow.later hB)).mono ?_
  rintro e wm ⟨da, dc, rfl, hrd, hfd, hcp, hb⟩
  replace hB := hB.trans (hb.mono hB.size)
  clear hb qC k_c hfd
  have hok := makeC_ok c
  generalize makeC c = d at *
  have hD : Blk (wm.alloc (.cells #[.int .i64 d.N, .int .i64 d.Pi, .int .i64 d.E, .int .i64 d.G, .int .i64 d.F, .slice da d.P.length dc] 24)) wm.heap.size 24 (confBox d da dc) := Blk.new wm _ _
  replace hB := hB.alloc hB.size (.cells #[.int .i64 d.N, .int .i64 d.Pi, .int .i64 d.E, .int .i64 d.G, .int .i64 d.F, .slice da d.P.length dc] 24)
  replace hrd := hrd.alloc (.cells #[.int .i64 d.N, .int .i64 d.Pi, .int .i64 d.E, .int .i64 d.G, .int .i64 d.F, .slice da d.P.length dc] 24)
  go_upto_region 4 with fail
  generalize wm.alloc (.cells #[.int .i64 d.N, .int .i64 d.Pi, .int .i64 d.E, .int .i64 d.G, .int .i64 d.F, .slice da d.P.length dc] 24) = wn at *
  generalize wm.heap.size = db at *
  have e0 := hok.e0; have e1 := hok.e1; have g0 := hok.g0; have g1 := hok.g1; have p0 := hok.p0; have p1 := hok.p1
  have H1 := Lib.hid (fun W => within8_any x9 (2 * d.Pi + 1) W (by omega) (by omega))
  have H2 := Lib.hid (fun W => within8_any y9 (4 * d.G + 1) W (by omega) (by omega))
  have H3 := Lib.hid (fun W => within8_any z9 (2 * d.E + 1) W (by omega) (by omega))
  have i0 := Int.emod_nonneg x9 (show 2 * d.Pi + 1 ≠ 0 by omega)
  have i1 := Int.emod_lt_of_pos x9 (show 0 < 2 * d.Pi + 1 by omega)
  have j0 := Int.emod_nonneg y9 (show 4 * d.G + 1 ≠ 0 by omega)
  have j1 := Int.emod_lt_of_pos y9 (show 0 < 4 * d.G + 1 by omega)
  have k0 := Int.emod_nonneg z9 (show 2 * d.E + 1 ≠ 0 by omega)
  have k1 := Int.emod_lt_of_pos z9 (show 0 < 2 * d.E + 1 by omega)
  generalize x9 % (2 * d.Pi + 1) = u at *
  generalize y9 % (4 * d.G + 1) = v at *
  generalize z9 % (2 * d.E + 1) = t at *
  have b1 : IntKind.i64.wrap (2 * d.Pi) = 2 * d.Pi := wrap_in _ (by omega) (by omega)
  have b2 : IntKind.i64.wrap (2 * d.Pi + 1) = 2 * d.Pi + 1 := wrap_in _ (by omega) (by omega)
  have b3 : IntKind.i64.wrap (4 * d.G) = 4 * d.G := wrap_in _ (by omega) (by omega)
  have b4 : IntKind.i64.wrap (4 * d.G + 1) = 4 * d.G + 1 := wrap_in _ (by omega) (by omega)
  have b5 : IntKind.i64.wrap (2 * d.E) = 2 * d.E := wrap_in _ (by omega) (by omega)
  have b6 : IntKind.i64.wrap (2 * d.E + 1) = 2 * d.E + 1 := wrap_in _ (by omega) (by omega)
  have b7 : IntKind.i64.wrap (2 * d.G) = 2 * d.G := wrap_in _ (by omega) (by omega)
  have b8 : IntKind.i64.wrap (u - d.Pi) = u - d.Pi := wrap_in _ (by omega) (by omega)
  have b9 : IntKind.i64.wrap (u - d.Pi + v) = u - d.Pi + v := wrap_in _ (by omega) (by omega)
  have b10 : IntKind.i64.wrap (u - d.Pi + v - 2 * d.G) = u - d.Pi + v - 2 * d.G := wrap_in _ (by omega) (by omega)
  have b11 : IntKind.i64.wrap (u - d.Pi + v - 2 * d.G + t) = u - d.Pi + v - 2 * d.G + t := wrap_in _ (by omega) (by omega)
  have b12 : IntKind.i64.wrap (u - d.Pi + v - 2 * d.G + t - d.E) = u - d.Pi + v - 2 * d.G + t - d.E := wrap_in _ (by omega) (by omega)
  refine region_slots [some 15, some 16, some 17, some 18, some 19, some 20, some 21, some 22, some 23, some 24, some 25, some 26, some 27, some 28, some 29, some 30, some 31, some 32, some 33, some 34, some 35, some 36, some 37, some 38, some 39, some 40, some 41, some 42, some 43, some 44, some 10] [none, none, none, none, none, none, none, none, none, none, none, none, none, none, none, none, none, none, none, none, none, none, none, none, none, none, none, none, none, none, none] 54 31 rfl (by kernel_rfl) (by kernel_rfl) rfl rfl ?_
  apply step_fix
  · intro a W Zs hS hFm hz hd
    have h1 := hFm.old 1 rfl
    conv at h1 => rhs; whnf
    replace h1 := ev_get hFm.size h1
    refine .inl ⟨wanted_none rfl _, fun K hK => ?_⟩
    have HK := Lib.hid hK
    clear hd hFm hK
    go_simp
    exact HK.out _ _ rfl (Below.refl _ _)
  simp only [List.nil_append, List.cons_append]
  apply step_fix
  · intro a W Zs hS hFm hz hd
    have h9 := hFm.old 9 rfl
    conv at h9 => rhs; whnf
    replace h9 := ev_get hFm.size h9
    refine .inl ⟨wanted_none rfl _, fun K hK => ?_⟩
    have HK := Lib.hid hK
    clear hd hFm hK
    go_simp
    exact HK.out _ _ rfl (Below.refl _ _)
  simp only [List.nil_append, List.cons_append]
  apply step_fix
  · intro a W Zs hS hFm hz hd
    have h16 := ev_get hFm.size (hd 1 16 rfl rfl)
    have hq := (hD.drew1.later hS).at
    unfold confBox at hq
    refine .inl ⟨wanted_none rfl _, fun K hK => ?_⟩
    have HK := Lib.hid hK
    clear hd hFm hK
    go_simp
    exact HK.out _ _ rfl (Below.refl _ _)
  simp only [List.nil_append, List.cons_append]
  apply step_fix
  · intro a W Zs hS hFm hz hd
    have h17 := ev_get hFm.size (hd 2 17 rfl rfl)
    refine .inl ⟨wanted_none rfl _, fun K hK => ?_⟩
    have HK := Lib.hid hK
    clear hd hFm hK
    go_simp
    exact HK.out _ _ rfl (Below.refl _ _)
  simp only [List.nil_append, List.cons_append]
  apply step_fix
  · intro a W Zs hS hFm hz hd
    have h18 := ev_get hFm.size (hd 3 18 rfl rfl)
    refine .inl ⟨wanted_none rfl _, fun K hK => ?_⟩
    have HK := Lib.hid hK
    clear hd hFm hK
    go_simp
    exact HK.out _ _ rfl (Below.refl _ _)
  simp only [List.nil_append, List.cons_append]
  apply step_fix
  · intro a W Zs hS hFm hz hd
    have h15 := ev_get hFm.size (hd 0 15 rfl rfl)
    have h19 := ev_get hFm.size (hd 4 19 rfl rfl)
    refine .inl ⟨wanted_none rfl _, fun K hK => ?_⟩
    have HK := Lib.hid hK
    clear hd hFm hK
    go_simp
    refine (H1.out _).mono ?_
    rintro e W' ⟨rfl, rfl⟩
    exact HK.out _ _ rfl (Below.refl _ _)
  simp only [List.nil_append, List.cons_append]
  apply step_fix
  · intro a W Zs hS hFm hz hd
    have h9 := hFm.old 9 rfl
    conv at h9 => rhs; whnf
    replace h9 := ev_get hFm.size h9
    refine .inl ⟨wanted_none rfl _, fun K hK => ?_⟩
    have HK := Lib.hid hK
    clear hd hFm hK
    go_simp
    exact HK.out _ _ rfl (Below.refl _ _)
  simp only [List.nil_append, List.cons_append]
  apply step_fix
  · intro a W Zs hS hFm hz hd
    have h21 := ev_get hFm.size (hd 6 21 rfl rfl)
    have hq := (hD.drew1.later hS).at
    unfold confBox at hq
    refine .inl ⟨wanted_none rfl _, fun K hK => ?_⟩
    have HK := Lib.hid hK
    clear hd hFm hK
    go_simp
    exact HK.out _ _ rfl (Below.refl _ _)
  simp only [List.nil_append, List.cons_append]
  apply step_fix
  · intro a W Zs hS hFm hz hd
    have h20 := ev_get hFm.size (hd 5 20 rfl rfl)
    have h22 := ev_get hFm.size (hd 7 22 rfl rfl)
    refine .inl ⟨wanted_none rfl _, fun K hK => ?_⟩
    have HK := Lib.hid hK
    clear hd hFm hK
    go_simp
    exact HK.out _ _ rfl (Below.refl _ _)
  simp only [List.nil_append, List.cons_append]
  apply step_fix
  · intro a W Zs hS hFm hz hd
    have h2 := hFm.old 2 rfl
    conv at h2 => rhs; whnf
    replace h2 := ev_get hFm.size h2
    refine .inl ⟨wanted_none rfl _, fun K hK => ?_⟩
    have HK := Lib.hid hK
    clear hd hFm hK
    go_simp
    exact HK.out _ _ rfl (Below.refl _ _)
  simp only [List.nil_append, List.cons_append]
  apply step_fix
  · intro a W Zs hS hFm hz hd
    have h9 := hFm.old 9 rfl
    conv at h9 => rhs; whnf
    replace h9 := ev_get hFm.size h9
    refine .inl ⟨wanted_none rfl _, fun K hK => ?_⟩
    have HK := Lib.hid hK
    clear hd hFm hK
    go_simp
    exact HK.out _ _ rfl (Below.refl _ _)
  simp only [List.nil_append, List.cons_append]
  apply step_fix
  · intro a W Zs hS hFm hz hd
    have h25 := ev_get hFm.size (hd 10 25 rfl rfl)
    have hq := (hD.drew1.later hS).at
    unfold confBox at hq
    refine .inl ⟨wanted_none rfl _, fun K hK => ?_⟩
    have HK := Lib.hid hK
    clear hd hFm hK
    go_simp
    exact HK.out _ _ rfl (Below.refl _ _)
  simp only [List.nil_append, List.cons_append]
  apply step_fix
  · intro a W Zs hS hFm hz hd
    have h26 := ev_get hFm.size (hd 11 26 rfl rfl)
    refine .inl ⟨wanted_none rfl _, fun K hK => ?_⟩
    have HK := Lib.hid hK
    clear hd hFm hK
    go_simp
    exact HK.out _ _ rfl (Below.refl _ _)
  simp only [List.nil_append, List.cons_append]
  apply step_fix
  · intro a W Zs hS hFm hz hd
    have h27 := ev_get hFm.size (hd 12 27 rfl rfl)
    refine .inl ⟨wanted_none rfl _, fun K hK => ?_⟩
    have HK := Lib.hid hK
    clear hd hFm hK
    go_simp
    exact HK.out _ _ rfl (Below.refl _ _)
  simp only [List.nil_append, List.cons_append]
  apply step_fix
  · intro a W Zs hS hFm hz hd
    have h24 := ev_get hFm.size (hd 9 24 rfl rfl)
    have h28 := ev_get hFm.size (hd 13 28 rfl rfl)
    refine .inl ⟨wanted_none rfl _, fun K hK => ?_⟩
    have HK := Lib.hid hK
    clear hd hFm hK
    go_simp
    refine (H2.out _).mono ?_
    rintro e W' ⟨rfl, rfl⟩
    exact HK.out _ _ rfl (Below.refl _ _)
  simp only [List.nil_append, List.cons_append]
  apply step_fix
  · intro a W Zs hS hFm hz hd
    have h23 := ev_get hFm.size (hd 8 23 rfl rfl)
    have h29 := ev_get hFm.size (hd 14 29 rfl rfl)
    refine .inl ⟨wanted_none rfl _, fun K hK => ?_⟩
    have HK := Lib.hid hK
    clear hd hFm hK
    go_simp
    exact HK.out _ _ rfl (Below.refl _ _)
  simp only [List.nil_append, List.cons_append]
  apply step_fix
  · intro a W Zs hS hFm hz hd
    have h9 := hFm.old 9 rfl
    conv at h9 => rhs; whnf
    replace h9 := ev_get hFm.size h9
    refine .inl ⟨wanted_none rfl _, fun K hK => ?_⟩
    have HK := Lib.hid hK
    clear hd hFm hK
    go_simp
    exact HK.out _ _ rfl (Below.refl _ _)
  simp only [List.nil_append, List.cons_append]
  apply step_fix
  · intro a W Zs hS hFm hz hd
    have h31 := ev_get hFm.size (hd 16 31 rfl rfl)
    have hq := (hD.drew1.later hS).at
    unfold confBox at hq
    refine .inl ⟨wanted_none rfl _, fun K hK => ?_⟩
    have HK := Lib.hid hK
    clear hd hFm hK
    go_simp
    exact HK.out _ _ rfl (Below.refl _ _)
  simp only [List.nil_append, List.cons_append]
  apply step_fix
  · intro a W Zs hS hFm hz hd
    have h32 := ev_get hFm.size (hd 17 32 rfl rfl)
    refine .inl ⟨wanted_none rfl _, fun K hK => ?_⟩
    have HK := Lib.hid hK
    clear hd hFm hK
    go_simp
    exact HK.out _ _ rfl (Below.refl _ _)
  simp only [List.nil_append, List.cons_append]
  apply step_fix
  · intro a W Zs hS hFm hz hd
    have h30 := ev_get hFm.size (hd 15 30 rfl rfl)
    have h33 := ev_get hFm.size (hd 18 33 rfl rfl)
    refine .inl ⟨wanted_none rfl _, fun K hK => ?_⟩
    have HK := Lib.hid hK
    clear hd hFm hK
    go_simp
    exact HK.out _ _ rfl (Below.refl _ _)
  simp only [List.nil_append, List.cons_append]
  apply step_fix
  · intro a W Zs hS hFm hz hd
    have h3 := hFm.old 3 rfl
    conv at h3 => rhs; whnf
    replace h3 := ev_get hFm.size h3
    refine .inl ⟨wanted_none rfl _, fun K hK => ?_⟩
    have HK := Lib.hid hK
    clear hd hFm hK
    go_simp
    exact HK.out _ _ rfl (Below.refl _ _)
  simp only [List.nil_append, List.cons_append]
  apply step_fix
  · intro a W Zs hS hFm hz hd
    have h9 := hFm.old 9 rfl
    conv at h9 => rhs; whnf
    replace h9 := ev_get hFm.size h9
    refine .inl ⟨wanted_none rfl _, fun K hK => ?_⟩
    have HK := Lib.hid hK
    clear hd hFm hK
    go_simp
    exact HK.out _ _ rfl (Below.refl _ _)
  simp only [List.nil_append, List.cons_append]
  apply step_fix
  · intro a W Zs hS hFm hz hd
    have h36 := ev_get hFm.size (hd 21 36 rfl rfl)
    have hq := (hD.drew1.later hS).at
    unfold confBox at hq
    refine .inl ⟨wanted_none rfl _, fun K hK => ?_⟩
    have HK := Lib.hid hK
    clear hd hFm hK
    go_simp
    exact HK.out _ _ rfl (Below.refl _ _)
  simp only [List.nil_append, List.cons_append]
  apply step_fix
  · intro a W Zs hS hFm hz hd
    have h37 := ev_get hFm.size (hd 22 37 rfl rfl)
    refine .inl ⟨wanted_none rfl _, fun K hK => ?_⟩
    have HK := Lib.hid hK
    clear hd hFm hK
    go_simp
    exact HK.out _ _ rfl (Below.refl _ _)
  simp only [List.nil_append, List.cons_append]
  apply step_fix
  · intro a W Zs hS hFm hz hd
    have h38 := ev_get hFm.size (hd 23 38 rfl rfl)
    refine .inl ⟨wanted_none rfl _, fun K hK => ?_⟩
    have HK := Lib.hid hK
    clear hd hFm hK
    go_simp
    exact HK.out _ _ rfl (Below.refl _ _)
  simp only [List.nil_append, List.cons_append]
  apply step_fix
  · intro a W Zs hS hFm hz hd
    have h35 := ev_get hFm.size (hd 20 35 rfl rfl)
    have h39 := ev_get hFm.size (hd 24 39 rfl rfl)
    refine .inl ⟨wanted_none rfl _, fun K hK => ?_⟩
    have HK := Lib.hid hK
    clear hd hFm hK
    go_simp
    refine (H3.out _).mono ?_
    rintro e W' ⟨rfl, rfl⟩
    exact HK.out _ _ rfl (Below.refl _ _)
  simp only [List.nil_append, List.cons_append]
  apply step_fix
  · intro a W Zs hS hFm hz hd
    have h34 := ev_get hFm.size (hd 19 34 rfl rfl)
    have h40 := ev_get hFm.size (hd 25 40 rfl rfl)
    refine .inl ⟨wanted_none rfl _, fun K hK => ?_⟩
    have HK := Lib.hid hK
    clear hd hFm hK
    go_simp
    exact HK.out _ _ rfl (Below.refl _ _)
  simp only [List.nil_append, List.cons_append]
  apply step_fix
  · intro a W Zs hS hFm hz hd
    have h9 := hFm.old 9 rfl
    conv at h9 => rhs; whnf
    replace h9 := ev_get hFm.size h9
    refine .inl ⟨wanted_none rfl _, fun K hK => ?_⟩
    have HK := Lib.hid hK
    clear hd hFm hK
    go_simp
    exact HK.out _ _ rfl (Below.refl _ _)
  simp only [List.nil_append, List.cons_append]
  apply step_fix
  · intro a W Zs hS hFm hz hd
    have h42 := ev_get hFm.size (hd 27 42 rfl rfl)
    have hq := (hD.drew1.later hS).at
    unfold confBox at hq
    refine .inl ⟨wanted_none rfl _, fun K hK => ?_⟩
    have HK := Lib.hid hK
    clear hd hFm hK
    go_simp
    exact HK.out _ _ rfl (Below.refl _ _)
  simp only [List.nil_append, List.cons_append]
  apply step_fix
  · intro a W Zs hS hFm hz hd
    have h41 := ev_get hFm.size (hd 26 41 rfl rfl)
    have h43 := ev_get hFm.size (hd 28 43 rfl rfl)
    refine .inl ⟨wanted_none rfl _, fun K hK => ?_⟩
    have HK := Lib.hid hK
    clear hd hFm hK
    go_simp
    exact HK.out _ _ rfl (Below.refl _ _)
  simp only [List.nil_append, List.cons_append]
  apply step_fix
  · intro a W Zs hS hFm hz hd
    have h44 := ev_get hFm.size (hd 29 44 rfl rfl)
    refine .inl ⟨wanted_none rfl _, fun K hK => ?_⟩
    have HK := Lib.hid hK
    clear hd hFm hK
    go_simp
    exact HK.out _ _ rfl (Below.refl _ _)
  simp only [List.nil_append, List.cons_append]
  intro a w3 Zs hS hFm hz hd
  have e10 := hd 30 10 (by decide) rfl
  have e0 := hFm.old 0 rfl
  conv at e0 => rhs; whnf
  have e1 := hFm.old 1 rfl
  conv at e1 => rhs; whnf
  have e2 := hFm.old 2 rfl
  conv at e2 => rhs; whnf
  have e3 := hFm.old 3 rfl
  conv at e3 => rhs; whnf
  have e4 := hFm.old 4 rfl
  conv at e4 => rhs; whnf
  have e5 := hFm.old 5 rfl
  conv at e5 => rhs; whnf
  have e6 := hFm.old 6 rfl
  conv at e6 => rhs; whnf
  have e7 := hFm.old 7 rfl
  conv at e7 => rhs; whnf
  have e8 := hFm.old 8 rfl
  conv at e8 => rhs; whnf
  have e9 := hFm.old 9 rfl
  conv at e9 => rhs; whnf
  have e11 := hFm.old 11 rfl
  conv at e11 => rhs; whnf
  have e12 := hFm.old 12 rfl
  conv at e12 => rhs; whnf
  have e13 := hFm.old 13 rfl
  conv at e13 => rhs; whnf
  have e14 := hFm.old 14 rfl
  conv at e14 => rhs; whnf
  have e45 := hFm.old 45 rfl
  conv at e45 => rhs; whnf
  have e46 := hFm.old 46 rfl
  conv at e46 => rhs; whnf
  have e47 := hFm.old 47 rfl
  conv at e47 => rhs; whnf
  have e48 := hFm.old 48 rfl
  conv at e48 => rhs; whnf
  have e49 := hFm.old 49 rfl
  conv at e49 => rhs; whnf
  have e50 := hFm.old 50 rfl
  conv at e50 => rhs; whnf
  have e51 := hFm.old 51 rfl
  conv at e51 => rhs; whnf
  have e52 := hFm.old 52 rfl
  conv at e52 => rhs; whnf
  have e53 := hFm.old 53 rfl
  conv at e53 => rhs; whnf
  have hsz := hFm.size
  have hdf := hFm.defers
  clear hd hFm
  obtain ⟨t, df⟩ := a
  simp only at hsz hdf
  subst hdf
  obtain ⟨x, hx⟩ : ∃ x : Nat → Value, ∀ i, t.getD i undef = x i := ⟨fun i => t.getD i undef, fun _ => rfl⟩
  have h10 := (hx 10).symm.trans e10
  have h0 := (hx 0).symm.trans e0
  have h1 := (hx 1).symm.trans e1
  have h2 := (hx 2).symm.trans e2
  have h3 := (hx 3).symm.trans e3
  have h4 := (hx 4).symm.trans e4
  have h5 := (hx 5).symm.trans e5
  have h6 := (hx 6).symm.trans e6
  have h7 := (hx 7).symm.trans e7
  have h8 := (hx 8).symm.trans e8
  have h9 := (hx 9).symm.trans e9
  have h11 := (hx 11).symm.trans e11
  have h12 := (hx 12).symm.trans e12
  have h13 := (hx 13).symm.trans e13
  have h14 := (hx 14).symm.trans e14
  have h45 := (hx 45).symm.trans e45
  have h46 := (hx 46).symm.trans e46
  have h47 := (hx 47).symm.trans e47
  have h48 := (hx 48).symm.trans e48
  have h49 := (hx 49).symm.trans e49
  have h50 := (hx 50).symm.trans e50
  have h51 := (hx 51).symm.trans e51
  have h52 := (hx 52).symm.trans e52
  have h53 := (hx 53).symm.trans e53
  have ht' : t = #[x 0, x 1, x 2, x 3, x 4, x 5, x 6, x 7, x 8, x 9, x 10, x 11, x 12, x 13, x 14, x 15, x 16, x 17, x 18, x 19, x 20, x 21, x 22, x 23, x 24, x 25, x 26, x 27, x 28, x 29, x 30, x 31, x 32, x 33, x 34, x 35, x 36, x 37, x 38, x 39, x 40, x 41, x 42, x 43, x 44, x 45, x 46, x 47, x 48, x 49, x 50, x 51, x 52, x 53] := frame_lit t 54 hsz x hx
  clear hx hsz hz e10 e0 e1 e2 e3 e4 e5 e6 e7 e8 e9 e11 e12 e13 e14 e45 e46 e47 e48 e49 e50 e51 e52 e53
  subst ht'
  dsimp only
  rw [h10, h0, h1, h2, h3, h4, h5, h6, h7, h8, h9, h11, h12, h13, h14, h45, h46, h47, h48, h49, h50, h51, h52, h53]
  clear h10 h0 h1 h2 h3 h4 h5 h6 h7 h8 h9 h11 h12 h13 h14 h45 h46 h47 h48 h49 h50 h51 h52 h53
  have hb := from_drew hS
  replace hB := hB.trans (hb.mono hB.size)
  replace hD := hD.later hb
  clear hS hb b1 b2 b3 b4 b5 b6 b7 b8 b9 b10 b11 b12 H1 H2 H3
  have hw : admitB d 4 (u - d.Pi + v - 2 * d.G + t - d.E) = true := by
    unfold admitB windowI
    simp
    omega
  generalize u - d.Pi + v - 2 * d.G + t - d.E = dev at *
  have hs := guard_yes d 4 dev [49, 35] hw
  have HA := Lib.hid (fun W => gAdmits_any d da dc 4 dev W hok)
  have HT := Lib.hid (fun W => gStream_any d da dc 4 dev [49, 35] W hok (by simp))
  rw [hw] at HA
  rw [hs] at HT
  clear hw hs
  have qD := hD.at
  unfold confBox at qD
  go_wp2_with fail
  refine (HA.out _).mono ?_
  rintro e wn ⟨rfl, hb⟩
  replace hB := hB.trans (hb.mono hB.size)
  replace hD := hD.later hb
  clear hb qD
  have qD := hD.at
  unfold confBox at qD
  go_wp2_with fail
  refine (HT.out _).mono ?_
  rintro e wn ⟨rfl, hb⟩
  replace hB := hB.trans (hb.mono hB.size)
  go_wp2
  go_ret
  exact ⟨rfl, hB⟩

end Go.Proofs.Ytfpbijcgbknklaa

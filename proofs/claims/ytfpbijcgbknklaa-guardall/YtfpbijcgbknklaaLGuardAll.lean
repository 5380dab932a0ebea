/-
  GuardAll's walk.
-/
import Derived.Test.YtfpbijcgbknklaaLaw80
import Derived.Test.YtfpbijcgbknklaaSlots3
namespace Go.Proofs.Ytfpbijcgbknklaa
open Go.RowKit Plait
set_option maxRecDepth 100000
set_option linter.unusedVariables false
set_option linter.unusedSimpArgs false

/-- A loop over a row: what lay at its start lies as it was. -/
def Upto8 (n : Nat) (w1 : World) (i : Value) (w' : World) : Prop := ∃ k : Nat, k ≤ n ∧ i = .int .i64 k ∧ Below w1.heap.size w1 w'

set_option maxHeartbeats 6400000 in
theorem guardAll_walk (c : Cf) (a : Option Addr) (cap : Nat) (y9 x9 : Int) (na : Option Addr) (ns : List Int) (nc : Nat) (w : World) (hrow : Row w a c.P) (iN : inI c.N) (iP : inI c.Pi) (iE : inI c.E) (iG : inI c.G) (iF : inI c.F)
    (y1 : -9223372036854775808 ≤ y9) (y2 : y9 ≤ 9223372036854775807) (x1 : -9223372036854775808 ≤ x9) (x2 : x9 ≤ 9223372036854775807) (hns : Row w na ns) :
    Calls Try.prog 3 #[.agg #[.int .i64 c.N, .int .i64 c.Pi, .int .i64 c.E, .int .i64 c.G, .int .i64 c.F, .slice a c.P.length cap], .int .i64 y9, .int .i64 x9, .slice na ns.length nc] w fun e w' => e = .returned (.bool true) ∧ Below w.heap.size w w' := by
  have hB1 : Below w.heap.size w (w.alloc (.cells #[.int .i64 c.N, .int .i64 c.Pi, .int .i64 c.E, .int .i64 c.G, .int .i64 c.F, .slice a c.P.length cap] 24)) := alloc_below w _
  have k_c : Blk (w.alloc (.cells #[.int .i64 c.N, .int .i64 c.Pi, .int .i64 c.E, .int .i64 c.G, .int .i64 c.F, .slice a c.P.length cap] 24)) w.heap.size 24 (confBox c a cap) := Blk.newAt _ _ rfl
  have hB := hB1
  clear hB1
  go_enter Try.func3, Try.ntmps3
  go_wp2_with fail
  refine (known8_any _).mono ?_
  rintro e wn ⟨rfl, hb⟩
  replace hB := hB.trans (hb.mono hB.size)
  replace k_c := k_c.later hb
  clear hb
  have qC := k_c.at
  unfold confBox at qC
  go_wp2_with fail
  refine (make_any2 c a cap _ (hrow.later hB)).mono ?_
  rintro e wm ⟨da, dc, rfl, hrd, hfd, hcp, hb⟩
  replace hB := hB.trans (hb.mono hB.size)
  clear hb qC k_c hfd
  have hok := makeC_ok c
  generalize makeC c = d at *
  have hD : Blk (wm.alloc (.cells #[.int .i64 d.N, .int .i64 d.Pi, .int .i64 d.E, .int .i64 d.G, .int .i64 d.F, .slice da d.P.length dc] 24)) wm.heap.size 24 (confBox d da dc) := Blk.new wm _ _
  replace hB := hB.alloc hB.size (.cells #[.int .i64 d.N, .int .i64 d.Pi, .int .i64 d.E, .int .i64 d.G, .int .i64 d.F, .slice da d.P.length dc] 24)
  replace hrd := hrd.alloc (.cells #[.int .i64 d.N, .int .i64 d.Pi, .int .i64 d.E, .int .i64 d.G, .int .i64 d.F, .slice da d.P.length dc] 24)
  go_upto_region 4 with fail
  generalize wm.alloc (.cells #[.int .i64 d.N, .int .i64 d.Pi, .int .i64 d.E, .int .i64 d.G, .int .i64 d.F, .slice da d.P.length dc] 24) = wn at *
  generalize wm.heap.size = db at *
  have e0 := hok.e0; have g0 := hok.g0; have p0 := hok.p0; have p1 := hok.p1
  have hl := textL_length ns
  have HT := Lib.hid (fun W (h : Row W na ns) => text_any na ns nc W h)
  have hns2 := hns.later hB
  generalize textL ns = s at *
  go_wp2_with fail
  refine (HT.out _ hns2).mono ?_
  rintro e wx ⟨rfl, hb⟩
  replace hB := hB.trans (hb.mono hB.size)
  replace hD := hD.later hb
  clear hb hns2 HT hrd
  go_upto_region 5 with fail
  have b1 : IntKind.i64.wrap (4 * d.Pi) = 4 * d.Pi := wrap_in _ (by omega) (by omega)
  have b2 : IntKind.i64.wrap (4 * d.Pi + 10) = 4 * d.Pi + 10 := wrap_in _ (by omega) (by omega)
  have b3 : IntKind.i64.wrap (2 * d.Pi) = 2 * d.Pi := wrap_in _ (by omega) (by omega)
  have b4 : IntKind.i64.wrap (2 * d.Pi + 1) = 2 * d.Pi + 1 := wrap_in _ (by omega) (by omega)
  have b5 : IntKind.i64.wrap (-(2 * d.Pi)) = -(2 * d.Pi) := wrap_in _ (by omega) (by omega)
  have b6 : IntKind.i64.wrap (0 - 2 * d.Pi) = -(2 * d.Pi) := by rw [Int.zero_sub]; exact b5
  have b7 : IntKind.i64.wrap (-(2 * d.Pi) - 1) = -(2 * d.Pi) - 1 := wrap_in _ (by omega) (by omega)
  have HW := Lib.hid (fun W => within8_any x9 (4 * d.Pi + 10) W (by omega) (by omega))
  have i0 := Int.emod_nonneg x9 (show 4 * d.Pi + 10 ≠ 0 by omega)
  have i1 := Int.emod_lt_of_pos x9 (show 0 < 4 * d.Pi + 10 by omega)
  generalize x9 % (4 * d.Pi + 10) = u at *
  have b8 : IntKind.i64.wrap (u - 2 * d.Pi) = u - 2 * d.Pi := wrap_in _ (by omega) (by omega)
  have b9 : IntKind.i64.wrap (u - 2 * d.Pi - 5) = u - 2 * d.Pi - 5 := wrap_in _ (by omega) (by omega)
  refine region_slots [some 21, some 22, some 23, some 24, some 25, some 26, some 27, some 28, some 29, some 30, some 31, some 32, some 33, some 34, some 35, some 36, some 37, some 38, some 39, some 40, some 41, some 42, some 43, some 44, some 45, some 46, some 47, some 48, some 49, some 11] [none, none, none, none, none, none, none, none, none, none, none, none, none, none, none, none, none, none, none, none, none, none, none, none, none, none, none, none, none, none] 110 30 rfl (by kernel_rfl) (by kernel_rfl) rfl rfl ?_
  apply step_fix
  · intro a W Zs hS hFm hz hd
    have h2 := hFm.old 2 rfl
    conv at h2 => rhs; whnf
    replace h2 := ev_get hFm.size h2
    refine .inl ⟨wanted_none rfl _, fun K hK => ?_⟩
    have HK := Lib.hid hK
    clear hd hFm hK
    go_simp
    exact HK.out _ _ rfl (Below.refl _ _)
  simp only [List.nil_append, List.cons_append]
  apply step_fix
  · intro a W Zs hS hFm hz hd
    have h2 := hFm.old 2 rfl
    conv at h2 => rhs; whnf
    replace h2 := ev_get hFm.size h2
    refine .inl ⟨wanted_none rfl _, fun K hK => ?_⟩
    have HK := Lib.hid hK
    clear hd hFm hK
    go_simp
    exact HK.out _ _ rfl (Below.refl _ _)
  simp only [List.nil_append, List.cons_append]
  apply step_fix
  · intro a W Zs hS hFm hz hd
    have h9 := hFm.old 9 rfl
    conv at h9 => rhs; whnf
    replace h9 := ev_get hFm.size h9
    refine .inl ⟨wanted_none rfl _, fun K hK => ?_⟩
    have HK := Lib.hid hK
    clear hd hFm hK
    go_simp
    exact HK.out _ _ rfl (Below.refl _ _)
  simp only [List.nil_append, List.cons_append]
  apply step_fix
  · intro a W Zs hS hFm hz hd
    have h23 := ev_get hFm.size (hd 2 23 rfl rfl)
    have hq := (hD.drew1.later hS).at
    unfold confBox at hq
    refine .inl ⟨wanted_none rfl _, fun K hK => ?_⟩
    have HK := Lib.hid hK
    clear hd hFm hK
    go_simp
    exact HK.out _ _ rfl (Below.refl _ _)
  simp only [List.nil_append, List.cons_append]
  apply step_fix
  · intro a W Zs hS hFm hz hd
    have h24 := ev_get hFm.size (hd 3 24 rfl rfl)
    refine .inl ⟨wanted_none rfl _, fun K hK => ?_⟩
    have HK := Lib.hid hK
    clear hd hFm hK
    go_simp
    exact HK.out _ _ rfl (Below.refl _ _)
  simp only [List.nil_append, List.cons_append]
  apply step_fix
  · intro a W Zs hS hFm hz hd
    have h25 := ev_get hFm.size (hd 4 25 rfl rfl)
    refine .inl ⟨wanted_none rfl _, fun K hK => ?_⟩
    have HK := Lib.hid hK
    clear hd hFm hK
    go_simp
    exact HK.out _ _ rfl (Below.refl _ _)
  simp only [List.nil_append, List.cons_append]
  apply step_fix
  · intro a W Zs hS hFm hz hd
    have h22 := ev_get hFm.size (hd 1 22 rfl rfl)
    have h26 := ev_get hFm.size (hd 5 26 rfl rfl)
    refine .inl ⟨wanted_none rfl _, fun K hK => ?_⟩
    have HK := Lib.hid hK
    clear hd hFm hK
    go_simp
    refine (HW.out _).mono ?_
    rintro e W' ⟨rfl, rfl⟩
    exact HK.out _ _ rfl (Below.refl _ _)
  simp only [List.nil_append, List.cons_append]
  apply step_fix
  · intro a W Zs hS hFm hz hd
    have h9 := hFm.old 9 rfl
    conv at h9 => rhs; whnf
    replace h9 := ev_get hFm.size h9
    refine .inl ⟨wanted_none rfl _, fun K hK => ?_⟩
    have HK := Lib.hid hK
    clear hd hFm hK
    go_simp
    exact HK.out _ _ rfl (Below.refl _ _)
  simp only [List.nil_append, List.cons_append]
  apply step_fix
  · intro a W Zs hS hFm hz hd
    have h28 := ev_get hFm.size (hd 7 28 rfl rfl)
    have hq := (hD.drew1.later hS).at
    unfold confBox at hq
    refine .inl ⟨wanted_none rfl _, fun K hK => ?_⟩
    have HK := Lib.hid hK
    clear hd hFm hK
    go_simp
    exact HK.out _ _ rfl (Below.refl _ _)
  simp only [List.nil_append, List.cons_append]
  apply step_fix
  · intro a W Zs hS hFm hz hd
    have h29 := ev_get hFm.size (hd 8 29 rfl rfl)
    refine .inl ⟨wanted_none rfl _, fun K hK => ?_⟩
    have HK := Lib.hid hK
    clear hd hFm hK
    go_simp
    exact HK.out _ _ rfl (Below.refl _ _)
  simp only [List.nil_append, List.cons_append]
  apply step_fix
  · intro a W Zs hS hFm hz hd
    have h27 := ev_get hFm.size (hd 6 27 rfl rfl)
    have h30 := ev_get hFm.size (hd 9 30 rfl rfl)
    refine .inl ⟨wanted_none rfl _, fun K hK => ?_⟩
    have HK := Lib.hid hK
    clear hd hFm hK
    go_simp
    exact HK.out _ _ rfl (Below.refl _ _)
  simp only [List.nil_append, List.cons_append]
  apply step_fix
  · intro a W Zs hS hFm hz hd
    have h31 := ev_get hFm.size (hd 10 31 rfl rfl)
    refine .inl ⟨wanted_none rfl _, fun K hK => ?_⟩
    have HK := Lib.hid hK
    clear hd hFm hK
    go_simp
    exact HK.out _ _ rfl (Below.refl _ _)
  simp only [List.nil_append, List.cons_append]
  apply step_fix
  · intro a W Zs hS hFm hz hd
    have h9 := hFm.old 9 rfl
    conv at h9 => rhs; whnf
    replace h9 := ev_get hFm.size h9
    refine .inl ⟨wanted_none rfl _, fun K hK => ?_⟩
    have HK := Lib.hid hK
    clear hd hFm hK
    go_simp
    exact HK.out _ _ rfl (Below.refl _ _)
  simp only [List.nil_append, List.cons_append]
  apply step_fix
  · intro a W Zs hS hFm hz hd
    have h33 := ev_get hFm.size (hd 12 33 rfl rfl)
    have hq := (hD.drew1.later hS).at
    unfold confBox at hq
    refine .inl ⟨wanted_none rfl _, fun K hK => ?_⟩
    have HK := Lib.hid hK
    clear hd hFm hK
    go_simp
    exact HK.out _ _ rfl (Below.refl _ _)
  simp only [List.nil_append, List.cons_append]
  apply step_fix
  · intro a W Zs hS hFm hz hd
    have h34 := ev_get hFm.size (hd 13 34 rfl rfl)
    refine .inl ⟨wanted_none rfl _, fun K hK => ?_⟩
    have HK := Lib.hid hK
    clear hd hFm hK
    go_simp
    exact HK.out _ _ rfl (Below.refl _ _)
  simp only [List.nil_append, List.cons_append]
  apply step_fix
  · intro a W Zs hS hFm hz hd
    have h9 := hFm.old 9 rfl
    conv at h9 => rhs; whnf
    replace h9 := ev_get hFm.size h9
    refine .inl ⟨wanted_none rfl _, fun K hK => ?_⟩
    have HK := Lib.hid hK
    clear hd hFm hK
    go_simp
    exact HK.out _ _ rfl (Below.refl _ _)
  simp only [List.nil_append, List.cons_append]
  apply step_fix
  · intro a W Zs hS hFm hz hd
    have h36 := ev_get hFm.size (hd 15 36 rfl rfl)
    have hq := (hD.drew1.later hS).at
    unfold confBox at hq
    refine .inl ⟨wanted_none rfl _, fun K hK => ?_⟩
    have HK := Lib.hid hK
    clear hd hFm hK
    go_simp
    exact HK.out _ _ rfl (Below.refl _ _)
  simp only [List.nil_append, List.cons_append]
  apply step_fix
  · intro a W Zs hS hFm hz hd
    have h37 := ev_get hFm.size (hd 16 37 rfl rfl)
    refine .inl ⟨wanted_none rfl _, fun K hK => ?_⟩
    have HK := Lib.hid hK
    clear hd hFm hK
    go_simp
    exact HK.out _ _ rfl (Below.refl _ _)
  simp only [List.nil_append, List.cons_append]
  apply step_fix
  · intro a W Zs hS hFm hz hd
    have h38 := ev_get hFm.size (hd 17 38 rfl rfl)
    refine .inl ⟨wanted_none rfl _, fun K hK => ?_⟩
    have HK := Lib.hid hK
    clear hd hFm hK
    go_simp
    exact HK.out _ _ rfl (Below.refl _ _)
  simp only [List.nil_append, List.cons_append]
  apply step_fix
  · intro a W Zs hS hFm hz hd
    have h9 := hFm.old 9 rfl
    conv at h9 => rhs; whnf
    replace h9 := ev_get hFm.size h9
    refine .inl ⟨wanted_none rfl _, fun K hK => ?_⟩
    have HK := Lib.hid hK
    clear hd hFm hK
    go_simp
    exact HK.out _ _ rfl (Below.refl _ _)
  simp only [List.nil_append, List.cons_append]
  apply step_fix
  · intro a W Zs hS hFm hz hd
    have h40 := ev_get hFm.size (hd 19 40 rfl rfl)
    have hq := (hD.drew1.later hS).at
    unfold confBox at hq
    refine .inl ⟨wanted_none rfl _, fun K hK => ?_⟩
    have HK := Lib.hid hK
    clear hd hFm hK
    go_simp
    exact HK.out _ _ rfl (Below.refl _ _)
  simp only [List.nil_append, List.cons_append]
  apply step_fix
  · intro a W Zs hS hFm hz hd
    have h41 := ev_get hFm.size (hd 20 41 rfl rfl)
    refine .inl ⟨wanted_none rfl _, fun K hK => ?_⟩
    have HK := Lib.hid hK
    clear hd hFm hK
    go_simp
    exact HK.out _ _ rfl (Below.refl _ _)
  simp only [List.nil_append, List.cons_append]
  apply step_fix
  · intro a W Zs hS hFm hz hd
    have h42 := ev_get hFm.size (hd 21 42 rfl rfl)
    refine .inl ⟨wanted_none rfl _, fun K hK => ?_⟩
    have HK := Lib.hid hK
    clear hd hFm hK
    go_simp
    exact HK.out _ _ rfl (Below.refl _ _)
  simp only [List.nil_append, List.cons_append]
  apply step_fix
  · intro a W Zs hS hFm hz hd
    have h9 := hFm.old 9 rfl
    conv at h9 => rhs; whnf
    replace h9 := ev_get hFm.size h9
    refine .inl ⟨wanted_none rfl _, fun K hK => ?_⟩
    have HK := Lib.hid hK
    clear hd hFm hK
    go_simp
    exact HK.out _ _ rfl (Below.refl _ _)
  simp only [List.nil_append, List.cons_append]
  apply step_fix
  · intro a W Zs hS hFm hz hd
    have h44 := ev_get hFm.size (hd 23 44 rfl rfl)
    have hq := (hD.drew1.later hS).at
    unfold confBox at hq
    refine .inl ⟨wanted_none rfl _, fun K hK => ?_⟩
    have HK := Lib.hid hK
    clear hd hFm hK
    go_simp
    exact HK.out _ _ rfl (Below.refl _ _)
  simp only [List.nil_append, List.cons_append]
  apply step_fix
  · intro a W Zs hS hFm hz hd
    have h45 := ev_get hFm.size (hd 24 45 rfl rfl)
    refine .inl ⟨wanted_none rfl _, fun K hK => ?_⟩
    have HK := Lib.hid hK
    clear hd hFm hK
    go_simp
    exact HK.out _ _ rfl (Below.refl _ _)
  simp only [List.nil_append, List.cons_append]
  apply step_fix
  · intro a W Zs hS hFm hz hd
    have h46 := ev_get hFm.size (hd 25 46 rfl rfl)
    refine .inl ⟨wanted_none rfl _, fun K hK => ?_⟩
    have HK := Lib.hid hK
    clear hd hFm hK
    go_simp
    exact HK.out _ _ rfl (Below.refl _ _)
  simp only [List.nil_append, List.cons_append]
  apply step_fix
  · intro a W Zs hS hFm hz hd
    have h47 := ev_get hFm.size (hd 26 47 rfl rfl)
    refine .inl ⟨wanted_none rfl _, fun K hK => ?_⟩
    have HK := Lib.hid hK
    clear hd hFm hK
    go_simp
    exact HK.out _ _ rfl (Below.refl _ _)
  simp only [List.nil_append, List.cons_append]
  apply step_blk
  · intro a W Zs hS hFm hz hd
    have h21 := ev_get hFm.size (hd 0 21 rfl rfl)
    have h32 := ev_get hFm.size (hd 11 32 rfl rfl)
    have h35 := ev_get hFm.size (hd 14 35 rfl rfl)
    have h39 := ev_get hFm.size (hd 18 39 rfl rfl)
    have h43 := ev_get hFm.size (hd 22 43 rfl rfl)
    have h48 := ev_get hFm.size (hd 27 48 rfl rfl)
    refine .inl ⟨wanted_none rfl _, fun K hK => ?_⟩
    have HK := Lib.hid hK
    clear hd hFm hK
    go_simp
    exact HK.out _ _ ⟨_, rfl, Blk.new _ _ _, .inr (.inl ⟨Nat.le_refl _, by simp⟩)⟩ (alloc_below _ _)
  simp only [List.nil_append, List.cons_append]
  apply step_blk
  · intro a W Zs hS hFm hz hd
    obtain ⟨b49, e49, q49, f49⟩ := hd 28 49 rfl rfl
    have h49 := ev_get hFm.size e49
    refine .inl ⟨wanted_none rfl _, fun K hK => ?_⟩
    have HK := Lib.hid hK
    clear hd hFm hK
    go_simp
    exact HK.out _ _ ⟨b49, rfl, q49, f49.imp id (foot_dep 28 rfl rfl rfl _)⟩ (Below.refl _ _)
  simp only [List.nil_append, List.cons_append]
  intro a w3 Zs hS hFm hz hd
  obtain ⟨b11, e11, q11, f11⟩ := hd 29 11 (by decide) rfl
  have e0 := hFm.old 0 rfl
  conv at e0 => rhs; whnf
  have e1 := hFm.old 1 rfl
  conv at e1 => rhs; whnf
  have e2 := hFm.old 2 rfl
  conv at e2 => rhs; whnf
  have e3 := hFm.old 3 rfl
  conv at e3 => rhs; whnf
  have e4 := hFm.old 4 rfl
  conv at e4 => rhs; whnf
  have e5 := hFm.old 5 rfl
  conv at e5 => rhs; whnf
  have e6 := hFm.old 6 rfl
  conv at e6 => rhs; whnf
  have e7 := hFm.old 7 rfl
  conv at e7 => rhs; whnf
  have e8 := hFm.old 8 rfl
  conv at e8 => rhs; whnf
  have e9 := hFm.old 9 rfl
  conv at e9 => rhs; whnf
  have e10 := hFm.old 10 rfl
  conv at e10 => rhs; whnf
  have e12 := hFm.old 12 rfl
  conv at e12 => rhs; whnf
  have e13 := hFm.old 13 rfl
  conv at e13 => rhs; whnf
  have e14 := hFm.old 14 rfl
  conv at e14 => rhs; whnf
  have e15 := hFm.old 15 rfl
  conv at e15 => rhs; whnf
  have e16 := hFm.old 16 rfl
  conv at e16 => rhs; whnf
  have e17 := hFm.old 17 rfl
  conv at e17 => rhs; whnf
  have e18 := hFm.old 18 rfl
  conv at e18 => rhs; whnf
  have e19 := hFm.old 19 rfl
  conv at e19 => rhs; whnf
  have e20 := hFm.old 20 rfl
  conv at e20 => rhs; whnf
  have e50 := hFm.old 50 rfl
  conv at e50 => rhs; whnf
  have e51 := hFm.old 51 rfl
  conv at e51 => rhs; whnf
  have e52 := hFm.old 52 rfl
  conv at e52 => rhs; whnf
  have e53 := hFm.old 53 rfl
  conv at e53 => rhs; whnf
  have e54 := hFm.old 54 rfl
  conv at e54 => rhs; whnf
  have e55 := hFm.old 55 rfl
  conv at e55 => rhs; whnf
  have e56 := hFm.old 56 rfl
  conv at e56 => rhs; whnf
  have e57 := hFm.old 57 rfl
  conv at e57 => rhs; whnf
  have e58 := hFm.old 58 rfl
  conv at e58 => rhs; whnf
  have e59 := hFm.old 59 rfl
  conv at e59 => rhs; whnf
  have e60 := hFm.old 60 rfl
  conv at e60 => rhs; whnf
  have e61 := hFm.old 61 rfl
  conv at e61 => rhs; whnf
  have e62 := hFm.old 62 rfl
  conv at e62 => rhs; whnf
  have e63 := hFm.old 63 rfl
  conv at e63 => rhs; whnf
  have e64 := hFm.old 64 rfl
  conv at e64 => rhs; whnf
  have e65 := hFm.old 65 rfl
  conv at e65 => rhs; whnf
  have e66 := hFm.old 66 rfl
  conv at e66 => rhs; whnf
  have e67 := hFm.old 67 rfl
  conv at e67 => rhs; whnf
  have e68 := hFm.old 68 rfl
  conv at e68 => rhs; whnf
  have e69 := hFm.old 69 rfl
  conv at e69 => rhs; whnf
  have e70 := hFm.old 70 rfl
  conv at e70 => rhs; whnf
  have e71 := hFm.old 71 rfl
  conv at e71 => rhs; whnf
  have e72 := hFm.old 72 rfl
  conv at e72 => rhs; whnf
  have e73 := hFm.old 73 rfl
  conv at e73 => rhs; whnf
  have e74 := hFm.old 74 rfl
  conv at e74 => rhs; whnf
  have e75 := hFm.old 75 rfl
  conv at e75 => rhs; whnf
  have e76 := hFm.old 76 rfl
  conv at e76 => rhs; whnf
  have e77 := hFm.old 77 rfl
  conv at e77 => rhs; whnf
  have e78 := hFm.old 78 rfl
  conv at e78 => rhs; whnf
  have e79 := hFm.old 79 rfl
  conv at e79 => rhs; whnf
  have e80 := hFm.old 80 rfl
  conv at e80 => rhs; whnf
  have e81 := hFm.old 81 rfl
  conv at e81 => rhs; whnf
  have e82 := hFm.old 82 rfl
  conv at e82 => rhs; whnf
  have e83 := hFm.old 83 rfl
  conv at e83 => rhs; whnf
  have e84 := hFm.old 84 rfl
  conv at e84 => rhs; whnf
  have e85 := hFm.old 85 rfl
  conv at e85 => rhs; whnf
  have e86 := hFm.old 86 rfl
  conv at e86 => rhs; whnf
  have e87 := hFm.old 87 rfl
  conv at e87 => rhs; whnf
  have e88 := hFm.old 88 rfl
  conv at e88 => rhs; whnf
  have e89 := hFm.old 89 rfl
  conv at e89 => rhs; whnf
  have e90 := hFm.old 90 rfl
  conv at e90 => rhs; whnf
  have e91 := hFm.old 91 rfl
  conv at e91 => rhs; whnf
  have e92 := hFm.old 92 rfl
  conv at e92 => rhs; whnf
  have e93 := hFm.old 93 rfl
  conv at e93 => rhs; whnf
  have e94 := hFm.old 94 rfl
  conv at e94 => rhs; whnf
  have e95 := hFm.old 95 rfl
  conv at e95 => rhs; whnf
  have e96 := hFm.old 96 rfl
  conv at e96 => rhs; whnf
  have e97 := hFm.old 97 rfl
  conv at e97 => rhs; whnf
  have e98 := hFm.old 98 rfl
  conv at e98 => rhs; whnf
  have e99 := hFm.old 99 rfl
  conv at e99 => rhs; whnf
  have e100 := hFm.old 100 rfl
  conv at e100 => rhs; whnf
  have e101 := hFm.old 101 rfl
  conv at e101 => rhs; whnf
  have e102 := hFm.old 102 rfl
  conv at e102 => rhs; whnf
  have e103 := hFm.old 103 rfl
  conv at e103 => rhs; whnf
  have e104 := hFm.old 104 rfl
  conv at e104 => rhs; whnf
  have e105 := hFm.old 105 rfl
  conv at e105 => rhs; whnf
  have e106 := hFm.old 106 rfl
  conv at e106 => rhs; whnf
  have e107 := hFm.old 107 rfl
  conv at e107 => rhs; whnf
  have e108 := hFm.old 108 rfl
  conv at e108 => rhs; whnf
  have e109 := hFm.old 109 rfl
  conv at e109 => rhs; whnf
  have hsz := hFm.size
  have hdf := hFm.defers
  clear hd hFm
  obtain ⟨t, df⟩ := a
  simp only at hsz hdf
  subst hdf
  obtain ⟨x, hx⟩ : ∃ x : Nat → Value, ∀ i, t.getD i undef = x i := ⟨fun i => t.getD i undef, fun _ => rfl⟩
  have h11 := (hx 11).symm.trans e11
  have h0 := (hx 0).symm.trans e0
  have h1 := (hx 1).symm.trans e1
  have h2 := (hx 2).symm.trans e2
  have h3 := (hx 3).symm.trans e3
  have h4 := (hx 4).symm.trans e4
  have h5 := (hx 5).symm.trans e5
  have h6 := (hx 6).symm.trans e6
  have h7 := (hx 7).symm.trans e7
  have h8 := (hx 8).symm.trans e8
  have h9 := (hx 9).symm.trans e9
  have h10 := (hx 10).symm.trans e10
  have h12 := (hx 12).symm.trans e12
  have h13 := (hx 13).symm.trans e13
  have h14 := (hx 14).symm.trans e14
  have h15 := (hx 15).symm.trans e15
  have h16 := (hx 16).symm.trans e16
  have h17 := (hx 17).symm.trans e17
  have h18 := (hx 18).symm.trans e18
  have h19 := (hx 19).symm.trans e19
  have h20 := (hx 20).symm.trans e20
  have h50 := (hx 50).symm.trans e50
  have h51 := (hx 51).symm.trans e51
  have h52 := (hx 52).symm.trans e52
  have h53 := (hx 53).symm.trans e53
  have h54 := (hx 54).symm.trans e54
  have h55 := (hx 55).symm.trans e55
  have h56 := (hx 56).symm.trans e56
  have h57 := (hx 57).symm.trans e57
  have h58 := (hx 58).symm.trans e58
  have h59 := (hx 59).symm.trans e59
  have h60 := (hx 60).symm.trans e60
  have h61 := (hx 61).symm.trans e61
  have h62 := (hx 62).symm.trans e62
  have h63 := (hx 63).symm.trans e63
  have h64 := (hx 64).symm.trans e64
  have h65 := (hx 65).symm.trans e65
  have h66 := (hx 66).symm.trans e66
  have h67 := (hx 67).symm.trans e67
  have h68 := (hx 68).symm.trans e68
  have h69 := (hx 69).symm.trans e69
  have h70 := (hx 70).symm.trans e70
  have h71 := (hx 71).symm.trans e71
  have h72 := (hx 72).symm.trans e72
  have h73 := (hx 73).symm.trans e73
  have h74 := (hx 74).symm.trans e74
  have h75 := (hx 75).symm.trans e75
  have h76 := (hx 76).symm.trans e76
  have h77 := (hx 77).symm.trans e77
  have h78 := (hx 78).symm.trans e78
  have h79 := (hx 79).symm.trans e79
  have h80 := (hx 80).symm.trans e80
  have h81 := (hx 81).symm.trans e81
  have h82 := (hx 82).symm.trans e82
  have h83 := (hx 83).symm.trans e83
  have h84 := (hx 84).symm.trans e84
  have h85 := (hx 85).symm.trans e85
  have h86 := (hx 86).symm.trans e86
  have h87 := (hx 87).symm.trans e87
  have h88 := (hx 88).symm.trans e88
  have h89 := (hx 89).symm.trans e89
  have h90 := (hx 90).symm.trans e90
  have h91 := (hx 91).symm.trans e91
  have h92 := (hx 92).symm.trans e92
  have h93 := (hx 93).symm.trans e93
  have h94 := (hx 94).symm.trans e94
  have h95 := (hx 95).symm.trans e95
  have h96 := (hx 96).symm.trans e96
  have h97 := (hx 97).symm.trans e97
  have h98 := (hx 98).symm.trans e98
  have h99 := (hx 99).symm.trans e99
  have h100 := (hx 100).symm.trans e100
  have h101 := (hx 101).symm.trans e101
  have h102 := (hx 102).symm.trans e102
  have h103 := (hx 103).symm.trans e103
  have h104 := (hx 104).symm.trans e104
  have h105 := (hx 105).symm.trans e105
  have h106 := (hx 106).symm.trans e106
  have h107 := (hx 107).symm.trans e107
  have h108 := (hx 108).symm.trans e108
  have h109 := (hx 109).symm.trans e109
  have ht' : t = #[x 0, x 1, x 2, x 3, x 4, x 5, x 6, x 7, x 8, x 9, x 10, x 11, x 12, x 13, x 14, x 15, x 16, x 17, x 18, x 19, x 20, x 21, x 22, x 23, x 24, x 25, x 26, x 27, x 28, x 29, x 30, x 31, x 32, x 33, x 34, x 35, x 36, x 37, x 38, x 39, x 40, x 41, x 42, x 43, x 44, x 45, x 46, x 47, x 48, x 49, x 50, x 51, x 52, x 53, x 54, x 55, x 56, x 57, x 58, x 59, x 60, x 61, x 62, x 63, x 64, x 65, x 66, x 67, x 68, x 69, x 70, x 71, x 72, x 73, x 74, x 75, x 76, x 77, x 78, x 79, x 80, x 81, x 82, x 83, x 84, x 85, x 86, x 87, x 88, x 89, x 90, x 91, x 92, x 93, x 94, x 95, x 96, x 97, x 98, x 99, x 100, x 101, x 102, x 103, x 104, x 105, x 106, x 107, x 108, x 109] := frame_lit t 110 hsz x hx
  clear hx hsz hz e11 e0 e1 e2 e3 e4 e5 e6 e7 e8 e9 e10 e12 e13 e14 e15 e16 e17 e18 e19 e20 e50 e51 e52 e53 e54 e55 e56 e57 e58 e59 e60 e61 e62 e63 e64 e65 e66 e67 e68 e69 e70 e71 e72 e73 e74 e75 e76 e77 e78 e79 e80 e81 e82 e83 e84 e85 e86 e87 e88 e89 e90 e91 e92 e93 e94 e95 e96 e97 e98 e99 e100 e101 e102 e103 e104 e105 e106 e107 e108 e109
  subst ht'
  dsimp only
  rw [h11, h0, h1, h2, h3, h4, h5, h6, h7, h8, h9, h10, h12, h13, h14, h15, h16, h17, h18, h19, h20, h50, h51, h52, h53, h54, h55, h56, h57, h58, h59, h60, h61, h62, h63, h64, h65, h66, h67, h68, h69, h70, h71, h72, h73, h74, h75, h76, h77, h78, h79, h80, h81, h82, h83, h84, h85, h86, h87, h88, h89, h90, h91, h92, h93, h94, h95, h96, h97, h98, h99, h100, h101, h102, h103, h104, h105, h106, h107, h108, h109]
  clear h11 h0 h1 h2 h3 h4 h5 h6 h7 h8 h9 h10 h12 h13 h14 h15 h16 h17 h18 h19 h20 h50 h51 h52 h53 h54 h55 h56 h57 h58 h59 h60 h61 h62 h63 h64 h65 h66 h67 h68 h69 h70 h71 h72 h73 h74 h75 h76 h77 h78 h79 h80 h81 h82 h83 h84 h85 h86 h87 h88 h89 h90 h91 h92 h93 h94 h95 h96 h97 h98 h99 h100 h101 h102 h103 h104 h105 h106 h107 h108 h109
  rw [undef_fold]
  have hb := from_drew hS
  replace hB := hB.trans (hb.mono hB.size)
  replace hD := hD.later hb
  clear hS hb f11 b1 b2 b3 b4 b5 b6 b7 b8 b9 HW
  have j0 : 0 ≤ y9 % 5 := by omega
  have j1 : y9 % 5 < 5 := by omega
  go_wp2_with fail
  refine (within8_any y9 5 _ (by omega) (by omega)).mono ?_
  rintro e wl ⟨rfl, rfl⟩
  generalize hz : y9 % 5 = z at *
  clear hz
  go_upto_region 7 with fail
  have hlt := q11.lt
  have hdl := hD.lt
  have hc : ∀ k, k < 6 → ∃ v : Int, inI v ∧ (w3.alloc (.cells #[.int .i64 y9, .int .i64 4, .int .i64 z] 3)).cell? ⟨b11, k, none⟩ = some (.int .i64 v) := by
    intro k hk
    rw [(q11.alloc (.cells #[.int .i64 y9, .int .i64 4, .int .i64 z] 3)).at]
    have h' : k = 0 ∨ k = 1 ∨ k = 2 ∨ k = 3 ∨ k = 4 ∨ k = 5 := by omega
    unfold inI
    rcases h' with rfl | rfl | rfl | rfl | rfl | rfl
    · exact ⟨_, ⟨x1, x2⟩, rfl⟩
    · exact ⟨_, ⟨by omega, by omega⟩, rfl⟩
    · exact ⟨_, ⟨by omega, by omega⟩, rfl⟩
    · exact ⟨_, ⟨by omega, by omega⟩, rfl⟩
    · exact ⟨_, ⟨by omega, by omega⟩, rfl⟩
    · exact ⟨_, ⟨by omega, by omega⟩, rfl⟩
  have ht : ∀ k, k < 3 → ∃ v : Int, inI v ∧ (w3.alloc (.cells #[.int .i64 y9, .int .i64 4, .int .i64 z] 3)).cell? ⟨w3.heap.size, k, none⟩ = some (.int .i64 v) := by
    intro k hk
    rw [(Blk.new w3 3 #[.int .i64 y9, .int .i64 4, .int .i64 z]).at]
    have h' : k = 0 ∨ k = 1 ∨ k = 2 := by omega
    unfold inI
    rcases h' with rfl | rfl | rfl
    · exact ⟨_, ⟨y1, y2⟩, rfl⟩
    · exact ⟨4, ⟨by omega, by omega⟩, rfl⟩
    · exact ⟨_, ⟨by omega, by omega⟩, rfl⟩
  have hlt2 : b11 < (w3.alloc (.cells #[.int .i64 y9, .int .i64 4, .int .i64 z] 3)).heap.size := by simp; omega
  have hlt3 : w3.heap.size < (w3.alloc (.cells #[.int .i64 y9, .int .i64 4, .int .i64 z] 3)).heap.size := by simp
  replace hB := hB.alloc hB.size (.cells #[.int .i64 y9, .int .i64 4, .int .i64 z] 3)
  replace hD := hD.alloc (.cells #[.int .i64 y9, .int .i64 4, .int .i64 z] 3)
  clear hlt q11 hdl
  generalize w3.alloc (.cells #[.int .i64 y9, .int .i64 4, .int .i64 z] 3) = w1 at *
  generalize w3.heap.size = B at *
  have HC := Lib.hid hc
  have HS := Lib.hid ht
  clear hc ht
  go_wp2
  go_loopw [13] (fun i w' => Upto8 6 w1 i w') (fun i _ => 6 - (intOf i).toNat)
  case atStart => exact ⟨0, by omega, rfl, Below.refl _ _⟩
  case round =>
    obtain ⟨k, hk, rfl, hb⟩ := hrel
    by_cases h6 : k < 6
    · obtain ⟨dv, hdv, hcell⟩ := HC.out k h6
      have d6 : decide ((k : Int) < 6) = true := by simp; omega
      have HCell := Lib.hid hcell
      clear hcell
      have g2 : (0 : Int) ≤ (k : Int) := by omega
      have g3 : (k : Int) < 6 := by omega
      go_wp2_with fail
      go_loopw [14] (fun i w' => Upto8 3 w1 i w') (fun i _ => 3 - (intOf i).toNat)
      case atStart => exact ⟨0, by omega, rfl, hb⟩
      case round =>
        clear hb
        obtain ⟨k2, hk2, rfl, hb⟩ := hrel
        by_cases h3 : k2 < 3
        · obtain ⟨st, hst, hcell2⟩ := HS.out k2 h3
          have d3 : decide ((k2 : Int) < 3) = true := by simp; omega
          have hc1 : wr.cell? ⟨b11, k, none⟩ = some (.int .i64 dv) := by rw [hb.cell (p := ⟨b11, k, none⟩) hlt2]; exact HCell.out
          have hc2 : wr.cell? ⟨B, k2, none⟩ = some (.int .i64 st) := by rw [hb.cell (p := ⟨B, k2, none⟩) hlt3]; exact hcell2
          have g4 : (0 : Int) ≤ (k2 : Int) := by omega
          have g5 : (k2 : Int) < 3 := by omega
          clear hcell2
          have hD2 := hD.later hb
          have l1 : b11 < wr.heap.size := by have := hb.size; omega
          have l2 : B < wr.heap.size := by have := hb.size; omega
          have A1 := Lib.hid (fun W => gAdmits_any d da dc st dv W hok)
          have A2 := Lib.hid (fun W => rAdmits8_any d da dc st dv W hok)
          have A3 := Lib.hid (fun W => gStream_any d da dc st dv s W hok (by omega))
          have A4 := Lib.hid (fun W => rStream8_any d da dc st dv s W hok)
          generalize admitB d st dv = q at *
          generalize guardL d st dv s = t at *
          have t1 : (q != q) = false := by simp
          have t2 : (t == t) = true := by simp
          go_upto_region 13 with fail
          (try dsimp only [List.append])
          refine region_slots [some 64, some 65, some 66, some 67, some 68, some 69, some 70, some 71, some 72, some 73, some 74, some 75, some 76, some 77, some 78, some 79, some 80, some 81, some 82, some 83, some 84, some 85, some 86, some 87, some 88, some 89, some 90, some 91, some 92, some 93, some 94, some 95, some 96, some 97, some 98, some 99, some 100, some 101, some 102, some 103, some 104, some 105, some 106, some 107, some 108, some 109] [none, none, none, none, none, none, none, none, none, none, none, none, none, none, none, none, none, none, none, none, none, none, none, none, none, none, none, none, none, none, none, none, none, none, none, none, none, none, none, none, none, none, none, none, none, none] 110 46 rfl (by kernel_rfl) (by kernel_rfl) rfl rfl ?_
          apply step_fix
          · intro a W Zs hS hFm hz hd
            have h9 := hFm.old 9 rfl
            conv at h9 => rhs; whnf
            replace h9 := ev_get hFm.size h9
            have hq := (hD2.drew1.later hS).at
            unfold confBox at hq
            refine .inl ⟨wanted_none rfl _, fun K hK => ?_⟩
            have HK := Lib.hid hK
            clear hd hFm hK
            go_simp
            exact HK.out _ _ rfl (Below.refl _ _)
          simp only [List.nil_append, List.cons_append]
          apply step_fix
          · intro a W Zs hS hFm hz hd
            have h12 := hFm.old 12 rfl
            conv at h12 => rhs; whnf
            replace h12 := ev_get hFm.size h12
            refine .inl ⟨wanted_none rfl _, fun K hK => ?_⟩
            have HK := Lib.hid hK
            clear hd hFm hK
            go_simp
            exact HK.out _ _ rfl (Below.refl _ _)
          simp only [List.nil_append, List.cons_append]
          apply step_fix
          · intro a W Zs hS hFm hz hd
            have h14 := hFm.old 14 rfl
            conv at h14 => rhs; whnf
            replace h14 := ev_get hFm.size h14
            refine .inl ⟨wanted_none rfl _, fun K hK => ?_⟩
            have HK := Lib.hid hK
            clear hd hFm hK
            go_simp
            exact HK.out _ _ rfl (Below.refl _ _)
          simp only [List.nil_append, List.cons_append]
          apply step_fix
          · intro a W Zs hS hFm hz hd
            have h65 := ev_get hFm.size (hd 1 65 rfl rfl)
            have h66 := ev_get hFm.size (hd 2 66 rfl rfl)
            refine .inl ⟨wanted_none rfl _, fun K hK => ?_⟩
            have HK := Lib.hid hK
            clear hd hFm hK
            go_simp
            exact HK.out _ _ rfl (Below.refl _ _)
          simp only [List.nil_append, List.cons_append]
          apply step_fix
          · intro a W Zs hS hFm hz hd
            have h67 := ev_get hFm.size (hd 3 67 rfl rfl)
            have hq := (hS.cell (p := ⟨B, k2, none⟩) l2).trans hc2
            refine .inl ⟨wanted_none rfl _, fun K hK => ?_⟩
            have HK := Lib.hid hK
            clear hd hFm hK
            go_simp
            exact HK.out _ _ rfl (Below.refl _ _)
          simp only [List.nil_append, List.cons_append]
          apply step_fix
          · intro a W Zs hS hFm hz hd
            have h11 := hFm.old 11 rfl
            conv at h11 => rhs; whnf
            replace h11 := ev_get hFm.size h11
            refine .inl ⟨wanted_none rfl _, fun K hK => ?_⟩
            have HK := Lib.hid hK
            clear hd hFm hK
            go_simp
            exact HK.out _ _ rfl (Below.refl _ _)
          simp only [List.nil_append, List.cons_append]
          apply step_fix
          · intro a W Zs hS hFm hz hd
            have h13 := hFm.old 13 rfl
            conv at h13 => rhs; whnf
            replace h13 := ev_get hFm.size h13
            refine .inl ⟨wanted_none rfl _, fun K hK => ?_⟩
            have HK := Lib.hid hK
            clear hd hFm hK
            go_simp
            exact HK.out _ _ rfl (Below.refl _ _)
          simp only [List.nil_append, List.cons_append]
          apply step_fix
          · intro a W Zs hS hFm hz hd
            have h69 := ev_get hFm.size (hd 5 69 rfl rfl)
            have h70 := ev_get hFm.size (hd 6 70 rfl rfl)
            refine .inl ⟨wanted_none rfl _, fun K hK => ?_⟩
            have HK := Lib.hid hK
            clear hd hFm hK
            go_simp
            exact HK.out _ _ rfl (Below.refl _ _)
          simp only [List.nil_append, List.cons_append]
          apply step_fix
          · intro a W Zs hS hFm hz hd
            have h71 := ev_get hFm.size (hd 7 71 rfl rfl)
            have hq := (hS.cell (p := ⟨b11, k, none⟩) l1).trans hc1
            refine .inl ⟨wanted_none rfl _, fun K hK => ?_⟩
            have HK := Lib.hid hK
            clear hd hFm hK
            go_simp
            exact HK.out _ _ rfl (Below.refl _ _)
          simp only [List.nil_append, List.cons_append]
          apply step_fix
          · intro a W Zs hS hFm hz hd
            have h64 := ev_get hFm.size (hd 0 64 rfl rfl)
            have h68 := ev_get hFm.size (hd 4 68 rfl rfl)
            have h72 := ev_get hFm.size (hd 8 72 rfl rfl)
            refine .inl ⟨wanted_none rfl _, fun K hK => ?_⟩
            have HK := Lib.hid hK
            clear hd hFm hK
            go_simp
            refine (A1.out _).mono ?_
            rintro e W' ⟨rfl, hb⟩
            exact HK.out _ _ rfl hb
          simp only [List.nil_append, List.cons_append]
          apply step_fix
          · intro a W Zs hS hFm hz hd
            have h9 := hFm.old 9 rfl
            conv at h9 => rhs; whnf
            replace h9 := ev_get hFm.size h9
            have hq := (hD2.drew1.later hS).at
            unfold confBox at hq
            refine .inl ⟨wanted_none rfl _, fun K hK => ?_⟩
            have HK := Lib.hid hK
            clear hd hFm hK
            go_simp
            exact HK.out _ _ rfl (Below.refl _ _)
          simp only [List.nil_append, List.cons_append]
          apply step_fix
          · intro a W Zs hS hFm hz hd
            have h12 := hFm.old 12 rfl
            conv at h12 => rhs; whnf
            replace h12 := ev_get hFm.size h12
            refine .inl ⟨wanted_none rfl _, fun K hK => ?_⟩
            have HK := Lib.hid hK
            clear hd hFm hK
            go_simp
            exact HK.out _ _ rfl (Below.refl _ _)
          simp only [List.nil_append, List.cons_append]
          apply step_fix
          · intro a W Zs hS hFm hz hd
            have h14 := hFm.old 14 rfl
            conv at h14 => rhs; whnf
            replace h14 := ev_get hFm.size h14
            refine .inl ⟨wanted_none rfl _, fun K hK => ?_⟩
            have HK := Lib.hid hK
            clear hd hFm hK
            go_simp
            exact HK.out _ _ rfl (Below.refl _ _)
          simp only [List.nil_append, List.cons_append]
          apply step_fix
          · intro a W Zs hS hFm hz hd
            have h75 := ev_get hFm.size (hd 11 75 rfl rfl)
            have h76 := ev_get hFm.size (hd 12 76 rfl rfl)
            refine .inl ⟨wanted_none rfl _, fun K hK => ?_⟩
            have HK := Lib.hid hK
            clear hd hFm hK
            go_simp
            exact HK.out _ _ rfl (Below.refl _ _)
          simp only [List.nil_append, List.cons_append]
          apply step_fix
          · intro a W Zs hS hFm hz hd
            have h77 := ev_get hFm.size (hd 13 77 rfl rfl)
            have hq := (hS.cell (p := ⟨B, k2, none⟩) l2).trans hc2
            refine .inl ⟨wanted_none rfl _, fun K hK => ?_⟩
            have HK := Lib.hid hK
            clear hd hFm hK
            go_simp
            exact HK.out _ _ rfl (Below.refl _ _)
          simp only [List.nil_append, List.cons_append]
          apply step_fix
          · intro a W Zs hS hFm hz hd
            have h11 := hFm.old 11 rfl
            conv at h11 => rhs; whnf
            replace h11 := ev_get hFm.size h11
            refine .inl ⟨wanted_none rfl _, fun K hK => ?_⟩
            have HK := Lib.hid hK
            clear hd hFm hK
            go_simp
            exact HK.out _ _ rfl (Below.refl _ _)
          simp only [List.nil_append, List.cons_append]
          apply step_fix
          · intro a W Zs hS hFm hz hd
            have h13 := hFm.old 13 rfl
            conv at h13 => rhs; whnf
            replace h13 := ev_get hFm.size h13
            refine .inl ⟨wanted_none rfl _, fun K hK => ?_⟩
            have HK := Lib.hid hK
            clear hd hFm hK
            go_simp
            exact HK.out _ _ rfl (Below.refl _ _)
          simp only [List.nil_append, List.cons_append]
          apply step_fix
          · intro a W Zs hS hFm hz hd
            have h79 := ev_get hFm.size (hd 15 79 rfl rfl)
            have h80 := ev_get hFm.size (hd 16 80 rfl rfl)
            refine .inl ⟨wanted_none rfl _, fun K hK => ?_⟩
            have HK := Lib.hid hK
            clear hd hFm hK
            go_simp
            exact HK.out _ _ rfl (Below.refl _ _)
          simp only [List.nil_append, List.cons_append]
          apply step_fix
          · intro a W Zs hS hFm hz hd
            have h81 := ev_get hFm.size (hd 17 81 rfl rfl)
            have hq := (hS.cell (p := ⟨b11, k, none⟩) l1).trans hc1
            refine .inl ⟨wanted_none rfl _, fun K hK => ?_⟩
            have HK := Lib.hid hK
            clear hd hFm hK
            go_simp
            exact HK.out _ _ rfl (Below.refl _ _)
          simp only [List.nil_append, List.cons_append]
          apply step_fix
          · intro a W Zs hS hFm hz hd
            have h74 := ev_get hFm.size (hd 10 74 rfl rfl)
            have h78 := ev_get hFm.size (hd 14 78 rfl rfl)
            have h82 := ev_get hFm.size (hd 18 82 rfl rfl)
            refine .inl ⟨wanted_none rfl _, fun K hK => ?_⟩
            have HK := Lib.hid hK
            clear hd hFm hK
            go_simp
            refine (A2.out _).mono ?_
            rintro e W' ⟨rfl, hb⟩
            exact HK.out _ _ rfl hb
          simp only [List.nil_append, List.cons_append]
          apply step_fix
          · intro a W Zs hS hFm hz hd
            have h73 := ev_get hFm.size (hd 9 73 rfl rfl)
            have h83 := ev_get hFm.size (hd 19 83 rfl rfl)
            refine .inl ⟨wanted_none rfl _, fun K hK => ?_⟩
            have HK := Lib.hid hK
            clear hd hFm hK
            go_simp
            exact HK.out _ _ rfl (Below.refl _ _)
          simp only [List.nil_append, List.cons_append]
          apply step_fix
          · intro a W Zs hS hFm hz hd
            have h84 := ev_get hFm.size (hd 20 84 rfl rfl)
            refine .inl ⟨wanted_none rfl _, fun K hK => ?_⟩
            have HK := Lib.hid hK
            clear hd hFm hK
            go_simp
            exact HK.out _ _ rfl (Below.refl _ _)
          simp only [List.nil_append, List.cons_append]
          apply step_fix
          · intro a W Zs hS hFm hz hd
            have h9 := hFm.old 9 rfl
            conv at h9 => rhs; whnf
            replace h9 := ev_get hFm.size h9
            have hq := (hD2.drew1.later hS).at
            unfold confBox at hq
            refine .inl ⟨wanted_at rfl rfl (hd 21 85 rfl rfl), fun K hK => ?_⟩
            have HK := Lib.hid hK
            clear hd hFm hK
            go_simp
            exact HK.out _ _ rfl (Below.refl _ _)
          simp only [List.nil_append, List.cons_append]
          apply step_fix
          · intro a W Zs hS hFm hz hd
            have h12 := hFm.old 12 rfl
            conv at h12 => rhs; whnf
            replace h12 := ev_get hFm.size h12
            refine .inl ⟨wanted_at rfl rfl (hd 21 85 rfl rfl), fun K hK => ?_⟩
            have HK := Lib.hid hK
            clear hd hFm hK
            go_simp
            exact HK.out _ _ rfl (Below.refl _ _)
          simp only [List.nil_append, List.cons_append]
          apply step_fix
          · intro a W Zs hS hFm hz hd
            have h14 := hFm.old 14 rfl
            conv at h14 => rhs; whnf
            replace h14 := ev_get hFm.size h14
            refine .inl ⟨wanted_at rfl rfl (hd 21 85 rfl rfl), fun K hK => ?_⟩
            have HK := Lib.hid hK
            clear hd hFm hK
            go_simp
            exact HK.out _ _ rfl (Below.refl _ _)
          simp only [List.nil_append, List.cons_append]
          apply step_fix
          · intro a W Zs hS hFm hz hd
            have h87 := ev_get hFm.size (hd 23 87 rfl rfl)
            have h88 := ev_get hFm.size (hd 24 88 rfl rfl)
            refine .inl ⟨wanted_at rfl rfl (hd 21 85 rfl rfl), fun K hK => ?_⟩
            have HK := Lib.hid hK
            clear hd hFm hK
            go_simp
            exact HK.out _ _ rfl (Below.refl _ _)
          simp only [List.nil_append, List.cons_append]
          apply step_fix
          · intro a W Zs hS hFm hz hd
            have h89 := ev_get hFm.size (hd 25 89 rfl rfl)
            have hq := (hS.cell (p := ⟨B, k2, none⟩) l2).trans hc2
            refine .inl ⟨wanted_at rfl rfl (hd 21 85 rfl rfl), fun K hK => ?_⟩
            have HK := Lib.hid hK
            clear hd hFm hK
            go_simp
            exact HK.out _ _ rfl (Below.refl _ _)
          simp only [List.nil_append, List.cons_append]
          apply step_fix
          · intro a W Zs hS hFm hz hd
            have h11 := hFm.old 11 rfl
            conv at h11 => rhs; whnf
            replace h11 := ev_get hFm.size h11
            refine .inl ⟨wanted_at rfl rfl (hd 21 85 rfl rfl), fun K hK => ?_⟩
            have HK := Lib.hid hK
            clear hd hFm hK
            go_simp
            exact HK.out _ _ rfl (Below.refl _ _)
          simp only [List.nil_append, List.cons_append]
          apply step_fix
          · intro a W Zs hS hFm hz hd
            have h13 := hFm.old 13 rfl
            conv at h13 => rhs; whnf
            replace h13 := ev_get hFm.size h13
            refine .inl ⟨wanted_at rfl rfl (hd 21 85 rfl rfl), fun K hK => ?_⟩
            have HK := Lib.hid hK
            clear hd hFm hK
            go_simp
            exact HK.out _ _ rfl (Below.refl _ _)
          simp only [List.nil_append, List.cons_append]
          apply step_fix
          · intro a W Zs hS hFm hz hd
            have h91 := ev_get hFm.size (hd 27 91 rfl rfl)
            have h92 := ev_get hFm.size (hd 28 92 rfl rfl)
            refine .inl ⟨wanted_at rfl rfl (hd 21 85 rfl rfl), fun K hK => ?_⟩
            have HK := Lib.hid hK
            clear hd hFm hK
            go_simp
            exact HK.out _ _ rfl (Below.refl _ _)
          simp only [List.nil_append, List.cons_append]
          apply step_fix
          · intro a W Zs hS hFm hz hd
            have h93 := ev_get hFm.size (hd 29 93 rfl rfl)
            have hq := (hS.cell (p := ⟨b11, k, none⟩) l1).trans hc1
            refine .inl ⟨wanted_at rfl rfl (hd 21 85 rfl rfl), fun K hK => ?_⟩
            have HK := Lib.hid hK
            clear hd hFm hK
            go_simp
            exact HK.out _ _ rfl (Below.refl _ _)
          simp only [List.nil_append, List.cons_append]
          apply step_fix
          · intro a W Zs hS hFm hz hd
            have h10 := hFm.old 10 rfl
            conv at h10 => rhs; whnf
            replace h10 := ev_get hFm.size h10
            refine .inl ⟨wanted_at rfl rfl (hd 21 85 rfl rfl), fun K hK => ?_⟩
            have HK := Lib.hid hK
            clear hd hFm hK
            go_simp
            exact HK.out _ _ rfl (Below.refl _ _)
          simp only [List.nil_append, List.cons_append]
          apply step_fix
          · intro a W Zs hS hFm hz hd
            have h86 := ev_get hFm.size (hd 22 86 rfl rfl)
            have h90 := ev_get hFm.size (hd 26 90 rfl rfl)
            have h94 := ev_get hFm.size (hd 30 94 rfl rfl)
            have h95 := ev_get hFm.size (hd 31 95 rfl rfl)
            refine .inl ⟨wanted_at rfl rfl (hd 21 85 rfl rfl), fun K hK => ?_⟩
            have HK := Lib.hid hK
            clear hd hFm hK
            go_simp
            refine (A3.out _).mono ?_
            rintro e W' ⟨rfl, hb⟩
            exact HK.out _ _ rfl hb
          simp only [List.nil_append, List.cons_append]
          apply step_fix
          · intro a W Zs hS hFm hz hd
            have h9 := hFm.old 9 rfl
            conv at h9 => rhs; whnf
            replace h9 := ev_get hFm.size h9
            have hq := (hD2.drew1.later hS).at
            unfold confBox at hq
            refine .inl ⟨wanted_at rfl rfl (hd 21 85 rfl rfl), fun K hK => ?_⟩
            have HK := Lib.hid hK
            clear hd hFm hK
            go_simp
            exact HK.out _ _ rfl (Below.refl _ _)
          simp only [List.nil_append, List.cons_append]
          apply step_fix
          · intro a W Zs hS hFm hz hd
            have h12 := hFm.old 12 rfl
            conv at h12 => rhs; whnf
            replace h12 := ev_get hFm.size h12
            refine .inl ⟨wanted_at rfl rfl (hd 21 85 rfl rfl), fun K hK => ?_⟩
            have HK := Lib.hid hK
            clear hd hFm hK
            go_simp
            exact HK.out _ _ rfl (Below.refl _ _)
          simp only [List.nil_append, List.cons_append]
          apply step_fix
          · intro a W Zs hS hFm hz hd
            have h14 := hFm.old 14 rfl
            conv at h14 => rhs; whnf
            replace h14 := ev_get hFm.size h14
            refine .inl ⟨wanted_at rfl rfl (hd 21 85 rfl rfl), fun K hK => ?_⟩
            have HK := Lib.hid hK
            clear hd hFm hK
            go_simp
            exact HK.out _ _ rfl (Below.refl _ _)
          simp only [List.nil_append, List.cons_append]
          apply step_fix
          · intro a W Zs hS hFm hz hd
            have h98 := ev_get hFm.size (hd 34 98 rfl rfl)
            have h99 := ev_get hFm.size (hd 35 99 rfl rfl)
            refine .inl ⟨wanted_at rfl rfl (hd 21 85 rfl rfl), fun K hK => ?_⟩
            have HK := Lib.hid hK
            clear hd hFm hK
            go_simp
            exact HK.out _ _ rfl (Below.refl _ _)
          simp only [List.nil_append, List.cons_append]
          apply step_fix
          · intro a W Zs hS hFm hz hd
            have h100 := ev_get hFm.size (hd 36 100 rfl rfl)
            have hq := (hS.cell (p := ⟨B, k2, none⟩) l2).trans hc2
            refine .inl ⟨wanted_at rfl rfl (hd 21 85 rfl rfl), fun K hK => ?_⟩
            have HK := Lib.hid hK
            clear hd hFm hK
            go_simp
            exact HK.out _ _ rfl (Below.refl _ _)
          simp only [List.nil_append, List.cons_append]
          apply step_fix
          · intro a W Zs hS hFm hz hd
            have h11 := hFm.old 11 rfl
            conv at h11 => rhs; whnf
            replace h11 := ev_get hFm.size h11
            refine .inl ⟨wanted_at rfl rfl (hd 21 85 rfl rfl), fun K hK => ?_⟩
            have HK := Lib.hid hK
            clear hd hFm hK
            go_simp
            exact HK.out _ _ rfl (Below.refl _ _)
          simp only [List.nil_append, List.cons_append]
          apply step_fix
          · intro a W Zs hS hFm hz hd
            have h13 := hFm.old 13 rfl
            conv at h13 => rhs; whnf
            replace h13 := ev_get hFm.size h13
            refine .inl ⟨wanted_at rfl rfl (hd 21 85 rfl rfl), fun K hK => ?_⟩
            have HK := Lib.hid hK
            clear hd hFm hK
            go_simp
            exact HK.out _ _ rfl (Below.refl _ _)
          simp only [List.nil_append, List.cons_append]
          apply step_fix
          · intro a W Zs hS hFm hz hd
            have h102 := ev_get hFm.size (hd 38 102 rfl rfl)
            have h103 := ev_get hFm.size (hd 39 103 rfl rfl)
            refine .inl ⟨wanted_at rfl rfl (hd 21 85 rfl rfl), fun K hK => ?_⟩
            have HK := Lib.hid hK
            clear hd hFm hK
            go_simp
            exact HK.out _ _ rfl (Below.refl _ _)
          simp only [List.nil_append, List.cons_append]
          apply step_fix
          · intro a W Zs hS hFm hz hd
            have h104 := ev_get hFm.size (hd 40 104 rfl rfl)
            have hq := (hS.cell (p := ⟨b11, k, none⟩) l1).trans hc1
            refine .inl ⟨wanted_at rfl rfl (hd 21 85 rfl rfl), fun K hK => ?_⟩
            have HK := Lib.hid hK
            clear hd hFm hK
            go_simp
            exact HK.out _ _ rfl (Below.refl _ _)
          simp only [List.nil_append, List.cons_append]
          apply step_fix
          · intro a W Zs hS hFm hz hd
            have h10 := hFm.old 10 rfl
            conv at h10 => rhs; whnf
            replace h10 := ev_get hFm.size h10
            refine .inl ⟨wanted_at rfl rfl (hd 21 85 rfl rfl), fun K hK => ?_⟩
            have HK := Lib.hid hK
            clear hd hFm hK
            go_simp
            exact HK.out _ _ rfl (Below.refl _ _)
          simp only [List.nil_append, List.cons_append]
          apply step_fix
          · intro a W Zs hS hFm hz hd
            have h97 := ev_get hFm.size (hd 33 97 rfl rfl)
            have h101 := ev_get hFm.size (hd 37 101 rfl rfl)
            have h105 := ev_get hFm.size (hd 41 105 rfl rfl)
            have h106 := ev_get hFm.size (hd 42 106 rfl rfl)
            refine .inl ⟨wanted_at rfl rfl (hd 21 85 rfl rfl), fun K hK => ?_⟩
            have HK := Lib.hid hK
            clear hd hFm hK
            go_simp
            refine (A4.out _).mono ?_
            rintro e W' ⟨rfl, hb⟩
            exact HK.out _ _ rfl hb
          simp only [List.nil_append, List.cons_append]
          apply step_fix
          · intro a W Zs hS hFm hz hd
            have h96 := ev_get hFm.size (hd 32 96 rfl rfl)
            have h107 := ev_get hFm.size (hd 43 107 rfl rfl)
            refine .inl ⟨wanted_at rfl rfl (hd 21 85 rfl rfl), fun K hK => ?_⟩
            have HK := Lib.hid hK
            clear hd hFm hK
            go_simp
            exact HK.out _ _ rfl (Below.refl _ _)
          simp only [List.nil_append, List.cons_append]
          apply step_fix
          · intro a W Zs hS hFm hz hd
            have h85 := ev_get hFm.size (hd 21 85 rfl rfl)
            have h108 := ev_get hFm.size (hd 44 108 rfl rfl)
            refine .inl ⟨wanted_none rfl _, fun K hK => ?_⟩
            have HK := Lib.hid hK
            clear hd hFm hK
            go_simp
            exact HK.out _ _ rfl (Below.refl _ _)
          simp only [List.nil_append, List.cons_append]
          intro a w5 Zs hS hFm hz hd
          have e109 := hd 45 109 (by decide) rfl
          have e0 := hFm.old 0 rfl
          conv at e0 => rhs; whnf
          have e1 := hFm.old 1 rfl
          conv at e1 => rhs; whnf
          have e2 := hFm.old 2 rfl
          conv at e2 => rhs; whnf
          have e3 := hFm.old 3 rfl
          conv at e3 => rhs; whnf
          have e4 := hFm.old 4 rfl
          conv at e4 => rhs; whnf
          have e5 := hFm.old 5 rfl
          conv at e5 => rhs; whnf
          have e6 := hFm.old 6 rfl
          conv at e6 => rhs; whnf
          have e7 := hFm.old 7 rfl
          conv at e7 => rhs; whnf
          have e8 := hFm.old 8 rfl
          conv at e8 => rhs; whnf
          have e9 := hFm.old 9 rfl
          conv at e9 => rhs; whnf
          have e10 := hFm.old 10 rfl
          conv at e10 => rhs; whnf
          have e11 := hFm.old 11 rfl
          conv at e11 => rhs; whnf
          have e12 := hFm.old 12 rfl
          conv at e12 => rhs; whnf
          have e13 := hFm.old 13 rfl
          conv at e13 => rhs; whnf
          have e14 := hFm.old 14 rfl
          conv at e14 => rhs; whnf
          have e15 := hFm.old 15 rfl
          conv at e15 => rhs; whnf
          have e16 := hFm.old 16 rfl
          conv at e16 => rhs; whnf
          have e17 := hFm.old 17 rfl
          conv at e17 => rhs; whnf
          have e18 := hFm.old 18 rfl
          conv at e18 => rhs; whnf
          have e19 := hFm.old 19 rfl
          conv at e19 => rhs; whnf
          have e20 := hFm.old 20 rfl
          conv at e20 => rhs; whnf
          have e21 := hFm.old 21 rfl
          conv at e21 => rhs; whnf
          have e22 := hFm.old 22 rfl
          conv at e22 => rhs; whnf
          have e23 := hFm.old 23 rfl
          conv at e23 => rhs; whnf
          have e24 := hFm.old 24 rfl
          conv at e24 => rhs; whnf
          have e25 := hFm.old 25 rfl
          conv at e25 => rhs; whnf
          have e26 := hFm.old 26 rfl
          conv at e26 => rhs; whnf
          have e27 := hFm.old 27 rfl
          conv at e27 => rhs; whnf
          have e28 := hFm.old 28 rfl
          conv at e28 => rhs; whnf
          have e29 := hFm.old 29 rfl
          conv at e29 => rhs; whnf
          have e30 := hFm.old 30 rfl
          conv at e30 => rhs; whnf
          have e31 := hFm.old 31 rfl
          conv at e31 => rhs; whnf
          have e32 := hFm.old 32 rfl
          conv at e32 => rhs; whnf
          have e33 := hFm.old 33 rfl
          conv at e33 => rhs; whnf
          have e34 := hFm.old 34 rfl
          conv at e34 => rhs; whnf
          have e35 := hFm.old 35 rfl
          conv at e35 => rhs; whnf
          have e36 := hFm.old 36 rfl
          conv at e36 => rhs; whnf
          have e37 := hFm.old 37 rfl
          conv at e37 => rhs; whnf
          have e38 := hFm.old 38 rfl
          conv at e38 => rhs; whnf
          have e39 := hFm.old 39 rfl
          conv at e39 => rhs; whnf
          have e40 := hFm.old 40 rfl
          conv at e40 => rhs; whnf
          have e41 := hFm.old 41 rfl
          conv at e41 => rhs; whnf
          have e42 := hFm.old 42 rfl
          conv at e42 => rhs; whnf
          have e43 := hFm.old 43 rfl
          conv at e43 => rhs; whnf
          have e44 := hFm.old 44 rfl
          conv at e44 => rhs; whnf
          have e45 := hFm.old 45 rfl
          conv at e45 => rhs; whnf
          have e46 := hFm.old 46 rfl
          conv at e46 => rhs; whnf
          have e47 := hFm.old 47 rfl
          conv at e47 => rhs; whnf
          have e48 := hFm.old 48 rfl
          conv at e48 => rhs; whnf
          have e49 := hFm.old 49 rfl
          conv at e49 => rhs; whnf
          have e50 := hFm.old 50 rfl
          conv at e50 => rhs; whnf
          have e51 := hFm.old 51 rfl
          conv at e51 => rhs; whnf
          have e52 := hFm.old 52 rfl
          conv at e52 => rhs; whnf
          have e53 := hFm.old 53 rfl
          conv at e53 => rhs; whnf
          have e54 := hFm.old 54 rfl
          conv at e54 => rhs; whnf
          have e55 := hFm.old 55 rfl
          conv at e55 => rhs; whnf
          have e56 := hFm.old 56 rfl
          conv at e56 => rhs; whnf
          have e57 := hFm.old 57 rfl
          conv at e57 => rhs; whnf
          have e58 := hFm.old 58 rfl
          conv at e58 => rhs; whnf
          have e59 := hFm.old 59 rfl
          conv at e59 => rhs; whnf
          have e60 := hFm.old 60 rfl
          conv at e60 => rhs; whnf
          have e61 := hFm.old 61 rfl
          conv at e61 => rhs; whnf
          have e62 := hFm.old 62 rfl
          conv at e62 => rhs; whnf
          have e63 := hFm.old 63 rfl
          conv at e63 => rhs; whnf
          have hsz := hFm.size
          have hdf := hFm.defers
          clear hd hFm
          obtain ⟨t, df⟩ := a
          simp only at hsz hdf
          subst hdf
          obtain ⟨x, hx⟩ : ∃ x : Nat → Value, ∀ i, t.getD i undef = x i := ⟨fun i => t.getD i undef, fun _ => rfl⟩
          have h109 := (hx 109).symm.trans e109
          have h0 := (hx 0).symm.trans e0
          have h1 := (hx 1).symm.trans e1
          have h2 := (hx 2).symm.trans e2
          have h3 := (hx 3).symm.trans e3
          have h4 := (hx 4).symm.trans e4
          have h5 := (hx 5).symm.trans e5
          have h6 := (hx 6).symm.trans e6
          have h7 := (hx 7).symm.trans e7
          have h8 := (hx 8).symm.trans e8
          have h9 := (hx 9).symm.trans e9
          have h10 := (hx 10).symm.trans e10
          have h11 := (hx 11).symm.trans e11
          have h12 := (hx 12).symm.trans e12
          have h13 := (hx 13).symm.trans e13
          have h14 := (hx 14).symm.trans e14
          have h15 := (hx 15).symm.trans e15
          have h16 := (hx 16).symm.trans e16
          have h17 := (hx 17).symm.trans e17
          have h18 := (hx 18).symm.trans e18
          have h19 := (hx 19).symm.trans e19
          have h20 := (hx 20).symm.trans e20
          have h21 := (hx 21).symm.trans e21
          have h22 := (hx 22).symm.trans e22
          have h23 := (hx 23).symm.trans e23
          have h24 := (hx 24).symm.trans e24
          have h25 := (hx 25).symm.trans e25
          have h26 := (hx 26).symm.trans e26
          have h27 := (hx 27).symm.trans e27
          have h28 := (hx 28).symm.trans e28
          have h29 := (hx 29).symm.trans e29
          have h30 := (hx 30).symm.trans e30
          have h31 := (hx 31).symm.trans e31
          have h32 := (hx 32).symm.trans e32
          have h33 := (hx 33).symm.trans e33
          have h34 := (hx 34).symm.trans e34
          have h35 := (hx 35).symm.trans e35
          have h36 := (hx 36).symm.trans e36
          have h37 := (hx 37).symm.trans e37
          have h38 := (hx 38).symm.trans e38
          have h39 := (hx 39).symm.trans e39
          have h40 := (hx 40).symm.trans e40
          have h41 := (hx 41).symm.trans e41
          have h42 := (hx 42).symm.trans e42
          have h43 := (hx 43).symm.trans e43
          have h44 := (hx 44).symm.trans e44
          have h45 := (hx 45).symm.trans e45
          have h46 := (hx 46).symm.trans e46
          have h47 := (hx 47).symm.trans e47
          have h48 := (hx 48).symm.trans e48
          have h49 := (hx 49).symm.trans e49
          have h50 := (hx 50).symm.trans e50
          have h51 := (hx 51).symm.trans e51
          have h52 := (hx 52).symm.trans e52
          have h53 := (hx 53).symm.trans e53
          have h54 := (hx 54).symm.trans e54
          have h55 := (hx 55).symm.trans e55
          have h56 := (hx 56).symm.trans e56
          have h57 := (hx 57).symm.trans e57
          have h58 := (hx 58).symm.trans e58
          have h59 := (hx 59).symm.trans e59
          have h60 := (hx 60).symm.trans e60
          have h61 := (hx 61).symm.trans e61
          have h62 := (hx 62).symm.trans e62
          have h63 := (hx 63).symm.trans e63
          have ht' : t = #[x 0, x 1, x 2, x 3, x 4, x 5, x 6, x 7, x 8, x 9, x 10, x 11, x 12, x 13, x 14, x 15, x 16, x 17, x 18, x 19, x 20, x 21, x 22, x 23, x 24, x 25, x 26, x 27, x 28, x 29, x 30, x 31, x 32, x 33, x 34, x 35, x 36, x 37, x 38, x 39, x 40, x 41, x 42, x 43, x 44, x 45, x 46, x 47, x 48, x 49, x 50, x 51, x 52, x 53, x 54, x 55, x 56, x 57, x 58, x 59, x 60, x 61, x 62, x 63, x 64, x 65, x 66, x 67, x 68, x 69, x 70, x 71, x 72, x 73, x 74, x 75, x 76, x 77, x 78, x 79, x 80, x 81, x 82, x 83, x 84, x 85, x 86, x 87, x 88, x 89, x 90, x 91, x 92, x 93, x 94, x 95, x 96, x 97, x 98, x 99, x 100, x 101, x 102, x 103, x 104, x 105, x 106, x 107, x 108, x 109] := frame_lit t 110 hsz x hx
          clear hx hsz hz e109 e0 e1 e2 e3 e4 e5 e6 e7 e8 e9 e10 e11 e12 e13 e14 e15 e16 e17 e18 e19 e20 e21 e22 e23 e24 e25 e26 e27 e28 e29 e30 e31 e32 e33 e34 e35 e36 e37 e38 e39 e40 e41 e42 e43 e44 e45 e46 e47 e48 e49 e50 e51 e52 e53 e54 e55 e56 e57 e58 e59 e60 e61 e62 e63
          subst ht'
          dsimp only
          rw [h109, h0, h1, h2, h3, h4, h5, h6, h7, h8, h9, h10, h11, h12, h13, h14, h15, h16, h17, h18, h19, h20, h21, h22, h23, h24, h25, h26, h27, h28, h29, h30, h31, h32, h33, h34, h35, h36, h37, h38, h39, h40, h41, h42, h43, h44, h45, h46, h47, h48, h49, h50, h51, h52, h53, h54, h55, h56, h57, h58, h59, h60, h61, h62, h63]
          clear h109 h0 h1 h2 h3 h4 h5 h6 h7 h8 h9 h10 h11 h12 h13 h14 h15 h16 h17 h18 h19 h20 h21 h22 h23 h24 h25 h26 h27 h28 h29 h30 h31 h32 h33 h34 h35 h36 h37 h38 h39 h40 h41 h42 h43 h44 h45 h46 h47 h48 h49 h50 h51 h52 h53 h54 h55 h56 h57 h58 h59 h60 h61 h62 h63
          rw [undef_fold]
          have hb2 := from_drew hS
          replace hb := hb.trans (hb2.mono hb.size)
          clear hS hb2 hc1 hc2 hD2 A1 A2 A3 A4
          go_wp2
          go_roundw
          case rel => exact ⟨k2 + 1, by omega, by go_num, hb⟩
          case measure => simp [intOf]; omega
        · have d3 : decide ((k2 : Int) < 3) = false := by simp; omega
          go_wp2
          go_roundw
          case rel => exact ⟨k + 1, by omega, by go_num, hb⟩
          case measure => simp [intOf]; omega
    · have d6 : decide ((k : Int) < 6) = false := by simp; omega
      have hB2 := hB.trans (hb.mono hB.size)
      go_wp2
      go_ret
      exact ⟨rfl, hB2⟩

end Go.Proofs.Ytfpbijcgbknklaa

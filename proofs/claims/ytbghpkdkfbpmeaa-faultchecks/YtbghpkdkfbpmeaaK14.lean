/-
  Contracts of plaitingref6: what the document's own chapter 6 answers of loci, first part: how a clock seems, whether a locus may be.
-/
import Derived.Test.YtbghpkdkfbpmeaaK9
import Derived.Test.YtbghpkdkfbpmeaaK8
import Derived.Test.YtbghpkdkfbpmeaaK7
import Derived.Test.YtbghpkdkfbpmeaaK6
namespace Go.Proofs.Ytbghpkdkfbpmeaa
open Go.RowKit Plait
set_option maxRecDepth 100000
set_option linter.unusedVariables false
set_option linter.unusedSimpArgs false

theorem Row.cellAt {w : World} {b off : Nat} {zs : List Int} (h : Row w (some ⟨b, off, none⟩) zs) (k : Nat) (hk : k < zs.length) : w.cell? ⟨b, off + k, none⟩ = some (.int .i64 zs[k]) := by
  obtain ⟨b', off', e, _, hc, _, _⟩ := h.get k hk
  cases e
  exact hc

set_option maxHeartbeats 1600000 in
theorem rDev6_any (c : Cf) (ca : Option Addr) (cc : Nat) (f : Fa) (a : Option Addr) (ac : Nat) (d : Option Addr) (dc : Nat) (r o i dev : Int) (w : World) (hc : c.Ok) (hD : Row w d f.D) (hl : f.D.length ≤ 1000000) (r0 : 0 ≤ r) (r1 : r ≤ 1000000) (i0 : 0 ≤ i) (i1 : i ≤ 1000000) :
    Calls Try.prog 17 #[.agg #[.int .i64 c.N, .int .i64 c.Pi, .int .i64 c.E, .int .i64 c.G, .int .i64 c.F, .slice ca c.P.length cc], .agg #[.int .i64 f.K, .int .i64 f.At, .int .i64 f.F, .int .i64 f.To, .slice a f.A.length ac, .slice d f.D.length dc], .int .i64 r, .int .i64 o, .int .i64 i, .int .i64 dev] w fun e w' => e = .returned (.int .i64 (devL c f r o i dev)) ∧ Below w.heap.size w w' := by
  have hB0 : Below w.heap.size w ((w.alloc (.cells #[.int .i64 c.N, .int .i64 c.Pi, .int .i64 c.E, .int .i64 c.G, .int .i64 c.F, .slice ca c.P.length cc] 24)).alloc (.cells #[.int .i64 f.K, .int .i64 f.At, .int .i64 f.F, .int .i64 f.To, .slice a f.A.length ac, .slice d f.D.length dc] 27)) := (alloc_below w _).alloc (by simp) _
  have hF : Blk ((w.alloc (.cells #[.int .i64 c.N, .int .i64 c.Pi, .int .i64 c.E, .int .i64 c.G, .int .i64 c.F, .slice ca c.P.length cc] 24)).alloc (.cells #[.int .i64 f.K, .int .i64 f.At, .int .i64 f.F, .int .i64 f.To, .slice a f.A.length ac, .slice d f.D.length dc] 27)) (w.heap.size + 1) 27 (faBox f a ac d dc) := Blk.newAt _ _ (by simp)
  cases e1 : (f.K != 1)
  · cases e2 : (o != f.At)
    · cases e3 : decide (r < f.F)
      · cases e4 : decide (f.To ≤ r)
        · have hat : atB f o = true := by
            unfold atB
            simp at e1 e2
            simp [e1, e2]
          have HF := Lib.hid (show devL c f r o i dev = if f.D = [] then 0 else clampI (3 * windowI c) (pickI f.D (13 * r + i)) by
            unfold devL
            rw [if_neg]
            simp at e3 e4
            simp [hat]
            omega)
          clear hat
          by_cases h4 : f.D.length = 0
          · have HF2 := Lib.hid (show devL c f r o i dev = 0 by rw [HF.out, if_pos (List.eq_nil_of_length_eq_zero h4)])
            have d4 : ((f.D.length : Int) == 0) = true := by simpa using h4
            clear h4
            go_enter Try.func17, Try.ntmps17
            go_wp2
            go_ret
            exact ⟨ret_int HF2.out.symm, hB0⟩
          · have HF2 := Lib.hid (show devL c f r o i dev = clampI (3 * windowI c) (pickI f.D (13 * r + i)) by rw [HF.out, if_neg (by intro h; rw [h] at h4; simp at h4)])
            have d4 : ((f.D.length : Int) == 0) = false := by simpa using h4
            have HW := Lib.hid (fun W => rwindow_any c ca cc W hc)
            have hw : 0 ≤ windowI c ∧ windowI c ≤ 20000 := by unfold windowI; have := hc.p0; have := hc.p1; have := hc.e0; have := hc.g0; omega
            have HCl := Lib.hid (show clampI (3 * windowI c) (pickI f.D (13 * r + i)) = max (-(3 * windowI c)) (min (pickI f.D (13 * r + i)) (3 * windowI c)) from rfl)
            obtain ⟨k, hk, hk2⟩ := emod_at f.D (13 * r + i) (by omega)
            have hpk : pickI f.D (13 * r + i) = f.D[k] := by unfold pickI; rw [hk]; simp [hk2]
            obtain ⟨hp1, hp2⟩ := hD.2.1 _ (List.getElem_mem hk2)
            have HR := Lib.hid (fun W => rrest_any (13 * r + i) f.D.length W (by omega) (by omega))
            rw [hk] at HR
            rw [hpk] at HCl HF2
            obtain ⟨b, off, rfl, hlt, hcc, _, _⟩ := hD.get k hk2
            have HX := Lib.hid (fun W (h : Row W (some ⟨b, off, none⟩) f.D) => h.cellAt k hk2)
            clear hk hpk hcc h4
            generalize f.D[k] = v at *
            have wr1 : IntKind.i64.wrap (13 * r) = 13 * r := wrap_in _ (by omega) (by omega)
            have wr2 : IntKind.i64.wrap (13 * r + i) = 13 * r + i := wrap_in _ (by omega) (by omega)
            generalize windowI c = win at *
            obtain ⟨hw1, hw2⟩ := hw
            have wr3 : IntKind.i64.wrap (-(3 * win)) = -(3 * win) := wrap_in _ (by omega) (by omega)
            go_enter Try.func17, Try.ntmps17
            go_wp2_with fail
            refine (HW.out _).mono ?_
            rintro e wm ⟨rfl, hb⟩
            replace hB0 := hB0.trans (hb.mono hB0.size)
            replace hF := hF.later hb
            replace hD := hD.later hB0
            clear hb
            go_upto_region 6 with fail
            refine region_slots [some 43, some 44, some 45, some 46, some 47, some 48, some 49, some 50, some 51, some 52, some 53, some 54, some 55, some 56, some 57, some 58, some 59, some 12] [none, none, none, none, none, none, none, none, none, none, none, none, none, none, none, none, none, none] 60 18 rfl (by kernel_rfl) (by kernel_rfl) rfl rfl ?_
            apply step_fix
            · intro a W Zs hS hFm hz hd
              have h13 := hFm.old 13 rfl
              conv at h13 => rhs; whnf
              replace h13 := ev_get hFm.size h13
              refine .inl ⟨wanted_none rfl _, fun K hK => ?_⟩
              have HK := Lib.hid hK
              clear hd hFm hK
              go_simp
              exact HK.out _ _ rfl (Below.refl _ _)
            simp only [List.nil_append, List.cons_append]
            apply step_fix
            · intro a W Zs hS hFm hz hd
              have h43 := ev_get hFm.size (hd 0 43 rfl rfl)
              refine .inl ⟨wanted_none rfl _, fun K hK => ?_⟩
              have HK := Lib.hid hK
              clear hd hFm hK
              go_simp
              exact HK.out _ _ rfl (Below.refl _ _)
            simp only [List.nil_append, List.cons_append]
            apply step_fix
            · intro a W Zs hS hFm hz hd
              have h13 := hFm.old 13 rfl
              conv at h13 => rhs; whnf
              replace h13 := ev_get hFm.size h13
              refine .inl ⟨wanted_none rfl _, fun K hK => ?_⟩
              have HK := Lib.hid hK
              clear hd hFm hK
              go_simp
              exact HK.out _ _ rfl (Below.refl _ _)
            simp only [List.nil_append, List.cons_append]
            apply step_fix
            · intro a W Zs hS hFm hz hd
              have h7 := hFm.old 7 rfl
              conv at h7 => rhs; whnf
              replace h7 := ev_get hFm.size h7
              refine .inl ⟨wanted_none rfl _, fun K hK => ?_⟩
              have HK := Lib.hid hK
              clear hd hFm hK
              go_simp
              exact HK.out _ _ rfl (Below.refl _ _)
            simp only [List.nil_append, List.cons_append]
            apply step_fix
            · intro a W Zs hS hFm hz hd
              have h46 := ev_get hFm.size (hd 3 46 rfl rfl)
              have hq := (hF.drew1.later hS).at
              unfold faBox at hq
              refine .inl ⟨wanted_none rfl _, fun K hK => ?_⟩
              have HK := Lib.hid hK
              clear hd hFm hK
              go_simp
              exact HK.out _ _ rfl (Below.refl _ _)
            simp only [List.nil_append, List.cons_append]
            apply step_fix
            · intro a W Zs hS hFm hz hd
              have h2 := hFm.old 2 rfl
              conv at h2 => rhs; whnf
              replace h2 := ev_get hFm.size h2
              refine .inl ⟨wanted_none rfl _, fun K hK => ?_⟩
              have HK := Lib.hid hK
              clear hd hFm hK
              go_simp
              exact HK.out _ _ rfl (Below.refl _ _)
            simp only [List.nil_append, List.cons_append]
            apply step_fix
            · intro a W Zs hS hFm hz hd
              have h48 := ev_get hFm.size (hd 5 48 rfl rfl)
              refine .inl ⟨wanted_none rfl _, fun K hK => ?_⟩
              have HK := Lib.hid hK
              clear hd hFm hK
              go_simp
              exact HK.out _ _ rfl (Below.refl _ _)
            simp only [List.nil_append, List.cons_append]
            apply step_fix
            · intro a W Zs hS hFm hz hd
              have h4 := hFm.old 4 rfl
              conv at h4 => rhs; whnf
              replace h4 := ev_get hFm.size h4
              refine .inl ⟨wanted_none rfl _, fun K hK => ?_⟩
              have HK := Lib.hid hK
              clear hd hFm hK
              go_simp
              exact HK.out _ _ rfl (Below.refl _ _)
            simp only [List.nil_append, List.cons_append]
            apply step_fix
            · intro a W Zs hS hFm hz hd
              have h49 := ev_get hFm.size (hd 6 49 rfl rfl)
              have h50 := ev_get hFm.size (hd 7 50 rfl rfl)
              refine .inl ⟨wanted_none rfl _, fun K hK => ?_⟩
              have HK := Lib.hid hK
              clear hd hFm hK
              go_simp
              exact HK.out _ _ rfl (Below.refl _ _)
            simp only [List.nil_append, List.cons_append]
            apply step_fix
            · intro a W Zs hS hFm hz hd
              have h7 := hFm.old 7 rfl
              conv at h7 => rhs; whnf
              replace h7 := ev_get hFm.size h7
              refine .inl ⟨wanted_none rfl _, fun K hK => ?_⟩
              have HK := Lib.hid hK
              clear hd hFm hK
              go_simp
              exact HK.out _ _ rfl (Below.refl _ _)
            simp only [List.nil_append, List.cons_append]
            apply step_fix
            · intro a W Zs hS hFm hz hd
              have h52 := ev_get hFm.size (hd 9 52 rfl rfl)
              have hq := (hF.drew1.later hS).at
              unfold faBox at hq
              refine .inl ⟨wanted_none rfl _, fun K hK => ?_⟩
              have HK := Lib.hid hK
              clear hd hFm hK
              go_simp
              exact HK.out _ _ rfl (Below.refl _ _)
            simp only [List.nil_append, List.cons_append]
            apply step_fix
            · intro a W Zs hS hFm hz hd
              have h53 := ev_get hFm.size (hd 10 53 rfl rfl)
              refine .inl ⟨wanted_none rfl _, fun K hK => ?_⟩
              have HK := Lib.hid hK
              clear hd hFm hK
              go_simp
              exact HK.out _ _ rfl (Below.refl _ _)
            simp only [List.nil_append, List.cons_append]
            apply step_fix
            · intro a W Zs hS hFm hz hd
              have h51 := ev_get hFm.size (hd 8 51 rfl rfl)
              have h54 := ev_get hFm.size (hd 11 54 rfl rfl)
              refine .inl ⟨wanted_none rfl _, fun K hK => ?_⟩
              have HK := Lib.hid hK
              clear hd hFm hK
              go_simp
              refine (HR.out _).mono ?_
              rintro e W' ⟨rfl, rfl⟩
              exact HK.out _ _ rfl (Below.refl _ _)
            simp only [List.nil_append, List.cons_append]
            apply step_fix
            · intro a W Zs hS hFm hz hd
              have h47 := ev_get hFm.size (hd 4 47 rfl rfl)
              have h55 := ev_get hFm.size (hd 12 55 rfl rfl)
              refine .inl ⟨wanted_none rfl _, fun K hK => ?_⟩
              have HK := Lib.hid hK
              clear hd hFm hK
              go_simp
              exact HK.out _ _ rfl (Below.refl _ _)
            simp only [List.nil_append, List.cons_append]
            apply step_fix
            · intro a W Zs hS hFm hz hd
              have h56 := ev_get hFm.size (hd 13 56 rfl rfl)
              have hq := HX.out W (hD.drew1.later hS)
              refine .inl ⟨wanted_none rfl _, fun K hK => ?_⟩
              have HK := Lib.hid hK
              clear hd hFm hK
              go_simp
              exact HK.out _ _ rfl (Below.refl _ _)
            simp only [List.nil_append, List.cons_append]
            apply step_fix
            · intro a W Zs hS hFm hz hd
              have h45 := ev_get hFm.size (hd 2 45 rfl rfl)
              have h57 := ev_get hFm.size (hd 14 57 rfl rfl)
              refine .inl ⟨wanted_none rfl _, fun K hK => ?_⟩
              have HK := Lib.hid hK
              clear hd hFm hK
              go_simp
              exact HK.out _ _ rfl (Below.refl _ _)
            simp only [List.nil_append, List.cons_append]
            apply step_fix
            · intro a W Zs hS hFm hz hd
              have h44 := ev_get hFm.size (hd 1 44 rfl rfl)
              have h58 := ev_get hFm.size (hd 15 58 rfl rfl)
              refine .inl ⟨wanted_none rfl _, fun K hK => ?_⟩
              have HK := Lib.hid hK
              clear hd hFm hK
              go_simp
              exact HK.out _ _ rfl (Below.refl _ _)
            simp only [List.nil_append, List.cons_append]
            apply step_fix
            · intro a W Zs hS hFm hz hd
              have h59 := ev_get hFm.size (hd 16 59 rfl rfl)
              refine .inl ⟨wanted_none rfl _, fun K hK => ?_⟩
              have HK := Lib.hid hK
              clear hd hFm hK
              go_simp
              exact HK.out _ _ rfl (Below.refl _ _)
            simp only [List.nil_append, List.cons_append]
            intro a w3 Zs hS hFm hz hd
            have e12 := hd 17 12 (by decide) rfl
            have e0 := hFm.old 0 rfl
            conv at e0 => rhs; whnf
            have e1 := hFm.old 1 rfl
            conv at e1 => rhs; whnf
            have e2 := hFm.old 2 rfl
            conv at e2 => rhs; whnf
            have e3 := hFm.old 3 rfl
            conv at e3 => rhs; whnf
            have e4 := hFm.old 4 rfl
            conv at e4 => rhs; whnf
            have e5 := hFm.old 5 rfl
            conv at e5 => rhs; whnf
            have e6 := hFm.old 6 rfl
            conv at e6 => rhs; whnf
            have e7 := hFm.old 7 rfl
            conv at e7 => rhs; whnf
            have e8 := hFm.old 8 rfl
            conv at e8 => rhs; whnf
            have e9 := hFm.old 9 rfl
            conv at e9 => rhs; whnf
            have e10 := hFm.old 10 rfl
            conv at e10 => rhs; whnf
            have e11 := hFm.old 11 rfl
            conv at e11 => rhs; whnf
            have e13 := hFm.old 13 rfl
            conv at e13 => rhs; whnf
            have e14 := hFm.old 14 rfl
            conv at e14 => rhs; whnf
            have e15 := hFm.old 15 rfl
            conv at e15 => rhs; whnf
            have e16 := hFm.old 16 rfl
            conv at e16 => rhs; whnf
            have e17 := hFm.old 17 rfl
            conv at e17 => rhs; whnf
            have e18 := hFm.old 18 rfl
            conv at e18 => rhs; whnf
            have e19 := hFm.old 19 rfl
            conv at e19 => rhs; whnf
            have e20 := hFm.old 20 rfl
            conv at e20 => rhs; whnf
            have e21 := hFm.old 21 rfl
            conv at e21 => rhs; whnf
            have e22 := hFm.old 22 rfl
            conv at e22 => rhs; whnf
            have e23 := hFm.old 23 rfl
            conv at e23 => rhs; whnf
            have e24 := hFm.old 24 rfl
            conv at e24 => rhs; whnf
            have e25 := hFm.old 25 rfl
            conv at e25 => rhs; whnf
            have e26 := hFm.old 26 rfl
            conv at e26 => rhs; whnf
            have e27 := hFm.old 27 rfl
            conv at e27 => rhs; whnf
            have e28 := hFm.old 28 rfl
            conv at e28 => rhs; whnf
            have e29 := hFm.old 29 rfl
            conv at e29 => rhs; whnf
            have e30 := hFm.old 30 rfl
            conv at e30 => rhs; whnf
            have e31 := hFm.old 31 rfl
            conv at e31 => rhs; whnf
            have e32 := hFm.old 32 rfl
            conv at e32 => rhs; whnf
            have e33 := hFm.old 33 rfl
            conv at e33 => rhs; whnf
            have e34 := hFm.old 34 rfl
            conv at e34 => rhs; whnf
            have e35 := hFm.old 35 rfl
            conv at e35 => rhs; whnf
            have e36 := hFm.old 36 rfl
            conv at e36 => rhs; whnf
            have e37 := hFm.old 37 rfl
            conv at e37 => rhs; whnf
            have e38 := hFm.old 38 rfl
            conv at e38 => rhs; whnf
            have e39 := hFm.old 39 rfl
            conv at e39 => rhs; whnf
            have e40 := hFm.old 40 rfl
            conv at e40 => rhs; whnf
            have e41 := hFm.old 41 rfl
            conv at e41 => rhs; whnf
            have e42 := hFm.old 42 rfl
            conv at e42 => rhs; whnf
            have hsz := hFm.size
            have hdf := hFm.defers
            clear hd hFm
            obtain ⟨t, df⟩ := a
            simp only at hsz hdf
            subst hdf
            obtain ⟨x, hx⟩ : ∃ x : Nat → Value, ∀ i, t.getD i undef = x i := ⟨fun i => t.getD i undef, fun _ => rfl⟩
            have h12 := (hx 12).symm.trans e12
            have h0 := (hx 0).symm.trans e0
            have h1 := (hx 1).symm.trans e1
            have h2 := (hx 2).symm.trans e2
            have h3 := (hx 3).symm.trans e3
            have h4 := (hx 4).symm.trans e4
            have h5 := (hx 5).symm.trans e5
            have h6 := (hx 6).symm.trans e6
            have h7 := (hx 7).symm.trans e7
            have h8 := (hx 8).symm.trans e8
            have h9 := (hx 9).symm.trans e9
            have h10 := (hx 10).symm.trans e10
            have h11 := (hx 11).symm.trans e11
            have h13 := (hx 13).symm.trans e13
            have h14 := (hx 14).symm.trans e14
            have h15 := (hx 15).symm.trans e15
            have h16 := (hx 16).symm.trans e16
            have h17 := (hx 17).symm.trans e17
            have h18 := (hx 18).symm.trans e18
            have h19 := (hx 19).symm.trans e19
            have h20 := (hx 20).symm.trans e20
            have h21 := (hx 21).symm.trans e21
            have h22 := (hx 22).symm.trans e22
            have h23 := (hx 23).symm.trans e23
            have h24 := (hx 24).symm.trans e24
            have h25 := (hx 25).symm.trans e25
            have h26 := (hx 26).symm.trans e26
            have h27 := (hx 27).symm.trans e27
            have h28 := (hx 28).symm.trans e28
            have h29 := (hx 29).symm.trans e29
            have h30 := (hx 30).symm.trans e30
            have h31 := (hx 31).symm.trans e31
            have h32 := (hx 32).symm.trans e32
            have h33 := (hx 33).symm.trans e33
            have h34 := (hx 34).symm.trans e34
            have h35 := (hx 35).symm.trans e35
            have h36 := (hx 36).symm.trans e36
            have h37 := (hx 37).symm.trans e37
            have h38 := (hx 38).symm.trans e38
            have h39 := (hx 39).symm.trans e39
            have h40 := (hx 40).symm.trans e40
            have h41 := (hx 41).symm.trans e41
            have h42 := (hx 42).symm.trans e42
            have ht' : t = #[x 0, x 1, x 2, x 3, x 4, x 5, x 6, x 7, x 8, x 9, x 10, x 11, x 12, x 13, x 14, x 15, x 16, x 17, x 18, x 19, x 20, x 21, x 22, x 23, x 24, x 25, x 26, x 27, x 28, x 29, x 30, x 31, x 32, x 33, x 34, x 35, x 36, x 37, x 38, x 39, x 40, x 41, x 42, x 43, x 44, x 45, x 46, x 47, x 48, x 49, x 50, x 51, x 52, x 53, x 54, x 55, x 56, x 57, x 58, x 59] := frame_lit t 60 hsz x hx
            clear hx hsz hz e12 e0 e1 e2 e3 e4 e5 e6 e7 e8 e9 e10 e11 e13 e14 e15 e16 e17 e18 e19 e20 e21 e22 e23 e24 e25 e26 e27 e28 e29 e30 e31 e32 e33 e34 e35 e36 e37 e38 e39 e40 e41 e42
            subst ht'
            dsimp only
            rw [h12, h0, h1, h2, h3, h4, h5, h6, h7, h8, h9, h10, h11, h13, h14, h15, h16, h17, h18, h19, h20, h21, h22, h23, h24, h25, h26, h27, h28, h29, h30, h31, h32, h33, h34, h35, h36, h37, h38, h39, h40, h41, h42]
            clear h12 h0 h1 h2 h3 h4 h5 h6 h7 h8 h9 h10 h11 h13 h14 h15 h16 h17 h18 h19 h20 h21 h22 h23 h24 h25 h26 h27 h28 h29 h30 h31 h32 h33 h34 h35 h36 h37 h38 h39 h40 h41 h42
            have hb := from_drew hS
            replace hB0 := hB0.trans (hb.mono hB0.size)
            go_wp2
            go_ret
            refine ⟨ret_int (Eq.symm (HF2.out.trans (HCl.out.trans ?_))), hB0⟩
            omega
        · have HF := Lib.hid (show devL c f r o i dev = dev by unfold devL; rw [if_pos (.inr (.inl (by simpa using e4)))])
          go_enter Try.func17, Try.ntmps17
          go_wp2
          go_ret
          exact ⟨ret_int HF.out.symm, hB0⟩
      · have HF := Lib.hid (show devL c f r o i dev = dev by unfold devL; rw [if_pos (.inl (by simpa using e3))])
        go_enter Try.func17, Try.ntmps17
        go_wp2
        go_ret
        exact ⟨ret_int HF.out.symm, hB0⟩
    · have HF := Lib.hid (show devL c f r o i dev = dev by
        have hx : atB f o = false := by
          unfold atB
          simp at e1 e2
          simp
          intro _
          exact fun h => e2 h.symm
        unfold devL
        rw [if_pos (.inr (.inr hx))])
      go_enter Try.func17, Try.ntmps17
      go_wp2
      go_ret
      exact ⟨ret_int HF.out.symm, hB0⟩
  · have HF := Lib.hid (show devL c f r o i dev = dev by
      have hx : atB f o = false := by
        unfold atB
        simp at e1
        simp [e1]
      unfold devL
      rw [if_pos (.inr (.inr hx))])
    go_enter Try.func17, Try.ntmps17
    go_wp2
    go_ret
    exact ⟨ret_int HF.out.symm, hB0⟩

end Go.Proofs.Ytbghpkdkfbpmeaa
/-
  Contracts of plaitingref6: whether a locus may be, as the document's own chapter 6 says.
-/
namespace Go.Proofs.Ytbghpkdkfbpmeaa
open Go.RowKit Plait
set_option maxRecDepth 100000
set_option linter.unusedVariables false
set_option linter.unusedSimpArgs false

theorem places_of (c : Cf) (f : Fa) (n : Int) (h : placesI c f.K = n) : (placeL c f && roundsL f) = !(decide (f.At < 0) || decide (n ≤ f.At) || decide (f.F < 0) || decide (1000 < f.F) || decide (f.To < f.F) || decide (1000 < f.To)) := by
  unfold placeL roundsL
  rw [h, Bool.eq_iff_iff]
  simp
  omega

theorem six_ways (a b c d e f : Bool) : (a = true) ∨ (a = false ∧ b = true) ∨ (a = false ∧ b = false ∧ c = true) ∨ (a = false ∧ b = false ∧ c = false ∧ d = true) ∨ (a = false ∧ b = false ∧ c = false ∧ d = false ∧ e = true) ∨ (a = false ∧ b = false ∧ c = false ∧ d = false ∧ e = false ∧ f = true) ∨ (a = false ∧ b = false ∧ c = false ∧ d = false ∧ e = false ∧ f = false) := by
  cases a <;> cases b <;> cases c <;> cases d <;> cases e <;> cases f <;> simp

set_option maxHeartbeats 6400000 in
theorem rCheck6_any (c : Cf) (ca : Option Addr) (cc : Nat) (f : Fa) (a : Option Addr) (ac : Nat) (d : Option Addr) (dc : Nat) (w : World) (hc : c.Ok) (hA : RowA w a f.A) (hD : f.D.length ≤ 9223372036854775807) :
    Calls Try.prog 14 #[.agg #[.int .i64 c.N, .int .i64 c.Pi, .int .i64 c.E, .int .i64 c.G, .int .i64 c.F, .slice ca c.P.length cc], .agg #[.int .i64 f.K, .int .i64 f.At, .int .i64 f.F, .int .i64 f.To, .slice a f.A.length ac, .slice d f.D.length dc]] w fun e w' => e = .returned (.int .i64 (checkL c f)) ∧ Below w.heap.size w w' := by
  have hlen := hA.1
  have h6 := hc.n6
  have h12 := hc.n12
  have hB0 : Below w.heap.size w ((w.alloc (.cells #[.int .i64 c.N, .int .i64 c.Pi, .int .i64 c.E, .int .i64 c.G, .int .i64 c.F, .slice ca c.P.length cc] 24)).alloc (.cells #[.int .i64 f.K, .int .i64 f.At, .int .i64 f.F, .int .i64 f.To, .slice a f.A.length ac, .slice d f.D.length dc] 27)) := (alloc_below w _).alloc (by simp) _
  have hF : Blk ((w.alloc (.cells #[.int .i64 c.N, .int .i64 c.Pi, .int .i64 c.E, .int .i64 c.G, .int .i64 c.F, .slice ca c.P.length cc] 24)).alloc (.cells #[.int .i64 f.K, .int .i64 f.At, .int .i64 f.F, .int .i64 f.To, .slice a f.A.length ac, .slice d f.D.length dc] 27)) (w.heap.size + 1) 27 (faBox f a ac d dc) := Blk.newAt _ _ (by simp)
  have hA1 := (hA.alloc (.cells #[.int .i64 c.N, .int .i64 c.Pi, .int .i64 c.E, .int .i64 c.G, .int .i64 c.F, .slice ca c.P.length cc] 24)).alloc (.cells #[.int .i64 f.K, .int .i64 f.At, .int .i64 f.F, .int .i64 f.To, .slice a f.A.length ac, .slice d f.D.length dc] 27)
  have H0 := Lib.hid (checkL_k c f)
  have H1 := Lib.hid (checkL_p c f)
  have H2 := Lib.hid (checkL_l c f)
  have hQ := hF.at
  unfold faBox at hQ
  have hkn : ∃ n : Int, placesI c f.K = n ∧ ((f.K == 0) = true ∧ n = 1 ∨ (f.K == 0) = false ∧ (f.K == 1) = true ∧ n = c.N ∨ (f.K == 0) = false ∧ (f.K == 1) = false ∧ (f.K == 2) = true ∧ n = 2 * c.N ∨ (f.K == 0) = false ∧ (f.K == 1) = false ∧ (f.K == 2) = false) := by
    refine ⟨_, rfl, ?_⟩
    unfold placesI
    by_cases k0 : f.K = 0
    · simp [k0]
    · by_cases k1 : f.K = 1
      · simp [k1]
      · by_cases k2 : f.K = 2
        · simp [k2]
        · simp [k0, k1, k2]
  obtain ⟨n, hn, hk⟩ := hkn
  have HP := Lib.hid (places_of c f n hn)
  have HG := Lib.hid (show longL f = (decide ((40 : Int) < (f.A.length : Int)) || decide ((40 : Int) < (f.D.length : Int)) || f.A.any longA) from rfl)
  have HK := Lib.hid (show knownL f = ((f.K == 0) || (f.K == 1) || (f.K == 2)) from rfl)
  clear hn
  have hways := six_ways (decide (f.At < 0)) (decide (n ≤ f.At)) (decide (f.F < 0)) (decide (1000 < f.F)) (decide (f.To < f.F)) (decide (1000 < f.To))
  rcases hk with ⟨k0, rfl⟩ | ⟨k0, k1, rfl⟩ | ⟨k0, k1, k2, rfl⟩ | ⟨k0, k1, k2⟩
  rotate_left 3
  · have HE := Lib.hid (H0.out (by rw [HK.out, k0, k1, k2]; rfl))
    go_enter Try.func14, Try.ntmps14
    go_wp2
    go_ret
    exact ⟨ret_int HE.out.symm, hB0⟩
  all_goals
    replace HK := Lib.hid (show knownL f = true by rw [HK.out]; simp [*])
    have HV := Lib.hid hways
    clear hways
    go_enter Try.func14, Try.ntmps14
    go_upto_region 9 with fail
    generalize (w.alloc (.cells #[.int .i64 c.N, .int .i64 c.Pi, .int .i64 c.E, .int .i64 c.G, .int .i64 c.F, .slice ca c.P.length cc] 24)).alloc (.cells #[.int .i64 f.K, .int .i64 f.At, .int .i64 f.F, .int .i64 f.To, .slice a f.A.length ac, .slice d f.D.length dc] 27) = w1 at *
    rcases HV.out with e1 | ⟨e1, e2⟩ | ⟨e1, e2, e3⟩ | ⟨e1, e2, e3, e4⟩ | ⟨e1, e2, e3, e4, e5⟩ | ⟨e1, e2, e3, e4, e5, e6⟩ | ⟨e1, e2, e3, e4, e5, e6⟩
    · have HE := Lib.hid (H1.out HK.out (by rw [HP.out, e1]; rfl))
      clear H0 H1 H2 HP HG HK HV
      go_wp2
      go_ret
      exact ⟨ret_int HE.out.symm, hB0⟩
    · have HE := Lib.hid (H1.out HK.out (by rw [HP.out, e1, e2]; rfl))
      clear H0 H1 H2 HP HG HK HV
      go_wp2
      go_ret
      exact ⟨ret_int HE.out.symm, hB0⟩
    · have HE := Lib.hid (H1.out HK.out (by rw [HP.out, e1, e2, e3]; rfl))
      clear H0 H1 H2 HP HG HK HV
      go_wp2
      go_ret
      exact ⟨ret_int HE.out.symm, hB0⟩
    · have HE := Lib.hid (H1.out HK.out (by rw [HP.out, e1, e2, e3, e4]; rfl))
      clear H0 H1 H2 HP HG HK HV
      go_wp2
      go_ret
      exact ⟨ret_int HE.out.symm, hB0⟩
    · have HE := Lib.hid (H1.out HK.out (by rw [HP.out, e1, e2, e3, e4, e5]; rfl))
      clear H0 H1 H2 HP HG HK HV
      go_wp2
      go_ret
      exact ⟨ret_int HE.out.symm, hB0⟩
    · have HE := Lib.hid (H1.out HK.out (by rw [HP.out, e1, e2, e3, e4, e5, e6]; rfl))
      clear H0 H1 H2 HP HG HK HV
      go_wp2
      go_ret
      exact ⟨ret_int HE.out.symm, hB0⟩
    · have HE := Lib.hid (H2.out HK.out (by rw [HP.out, e1, e2, e3, e4, e5, e6]; rfl))
      clear H0 H1 H2 HP HK HV
      cases d1 : decide ((40 : Int) < (f.A.length : Int))
      · cases d2 : decide ((40 : Int) < (f.D.length : Int))
        · have HG2 := Lib.hid (show longL f = f.A.any longA by rw [HG.out, d1, d2]; rfl)
          clear HG
          go_upto_region 14 with fail
          go_loopw [6] (fun i w' => ∃ k : Nat, k ≤ f.A.length ∧ i = .int .i64 k ∧ (f.A.take k).any longA = false ∧ w' = w1) (fun i _ => f.A.length - (intOf i).toNat)
          case atStart => exact ⟨0, Nat.zero_le _, rfl, by simp, rfl⟩
          case round =>
            obtain ⟨k, hk, rfl, hno, rfl⟩ := hrel
            have HN := Lib.hid hno
            clear hno
            by_cases hlt : k < f.A.length
            · have d3 : decide (k < f.A.length) = true := by simpa using hlt
              have d3' : decide ((k : Int) < (f.A.length : Int)) = true := by simp; omega
              obtain ⟨b, off, rfl, hbl, c1, c2, c3, _, _, hT⟩ := hA1.get k hlt
              cases hx : longA f.A[k]
              · have HS := Lib.hid (any_step f.A k hlt HN.out hx)
                unfold longA at hx
                generalize f.A[k] = t at *
                have d4 : decide ((1000 : Int) < (t.T.length : Int)) = false := by simp at hx ⊢; omega
                clear hx
                go_wp2
                go_roundw
                case rel => exact ⟨k + 1, by omega, by go_num, HS.out, by trivial⟩
                case measure => simp [intOf]; omega
              · have HF := Lib.hid (any_yes f.A k hlt hx)
                unfold longA at hx
                generalize f.A[k] = t at *
                have d4 : decide ((1000 : Int) < (t.T.length : Int)) = true := by simp at hx ⊢; omega
                clear hx
                go_wp2
                go_ret
                exact ⟨ret_int (by rw [HE.out, HG2.out, HF.out]; rfl), hB0⟩
            · have d3 : decide (k < f.A.length) = false := by simpa using hlt
              have d3' : decide ((k : Int) < (f.A.length : Int)) = false := by simp; omega
              have HF := Lib.hid (any_end f.A k hlt HN.out)
              go_wp2
              go_ret
              exact ⟨ret_int (by rw [HE.out, HG2.out, HF.out]; rfl), hB0⟩
        · have HG2 := Lib.hid (show longL f = true by rw [HG.out, d1, d2]; rfl)
          clear HG
          go_wp2
          go_ret
          exact ⟨ret_int (by rw [HE.out, HG2.out]; rfl), hB0⟩
      · have HG2 := Lib.hid (show longL f = true by rw [HG.out, d1]; rfl)
        clear HG
        go_wp2
        go_ret
        exact ⟨ret_int (by rw [HE.out, HG2.out]; rfl), hB0⟩

end Go.Proofs.Ytbghpkdkfbpmeaa

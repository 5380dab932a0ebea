/-
  Contracts of package fault, last part: Emit.
-/
import Derived.Test.YtbghpkdkfbpmeaaGreatK13
import Derived.Test.YtbghpkdkfbpmeaaGreatK3
import Derived.Test.YtbghpkdkfbpmeaaGreatK12
import Derived.Test.YtbghpkdkfbpmeaaGreatK11
namespace Go.Proofs.YtbghpkdkfbpmeaaGreat
open Go.RowKit Plait
set_option maxRecDepth 100000
set_option linter.unusedVariables false
set_option linter.unusedSimpArgs false

set_option maxHeartbeats 3200000 in
theorem lEmit_any (c : Cf) (ca : Option Addr) (cc : Nat) (f : Fa) (a : Option Addr) (ac : Nat) (d : Option Addr) (dc : Nat) (r s i j : Int) (b : List UInt8) (w : World) (hc : c.Ok) (hA : RowA w a f.A) (hl : f.A.length ≤ 1000000) (ht : ∀ x ∈ f.A, x.T.length ≤ 1048576)
    (r0 : 0 ≤ r) (r1 : r ≤ 1000000) (s0 : 0 ≤ s) (s1 : s < slotsI c) (hi : inI i) (j0 : 0 ≤ j) (j1 : j ≤ 1000000) (hb : b.length ≤ 1048576) :
    Calls Tryz.prog 15 #[.agg #[.int .i64 c.N, .int .i64 c.Pi, .int .i64 c.E, .int .i64 c.G, .int .i64 c.F, .slice ca c.P.length cc], .agg #[.int .i64 f.K, .int .i64 f.At, .int .i64 f.F, .int .i64 f.To, .slice a f.A.length ac, .slice d f.D.length dc], .int .i64 r, .int .i64 s, .int .i64 i, .int .i64 j, .string ⟨b.toArray⟩] w fun e w' => e = .returned (.string ⟨(emitL c f r s i j b).toArray⟩) ∧ Below w.heap.size w w' := by
  have hB0 : Below w.heap.size w ((w.alloc (.cells #[.int .i64 c.N, .int .i64 c.Pi, .int .i64 c.E, .int .i64 c.G, .int .i64 c.F, .slice ca c.P.length cc] 24)).alloc (.cells #[.int .i64 f.K, .int .i64 f.At, .int .i64 f.F, .int .i64 f.To, .slice a f.A.length ac, .slice d f.D.length dc] 27)) := (alloc_below w _).alloc (by simp) _
  have hC : Blk ((w.alloc (.cells #[.int .i64 c.N, .int .i64 c.Pi, .int .i64 c.E, .int .i64 c.G, .int .i64 c.F, .slice ca c.P.length cc] 24)).alloc (.cells #[.int .i64 f.K, .int .i64 f.At, .int .i64 f.F, .int .i64 f.To, .slice a f.A.length ac, .slice d f.D.length dc] 27)) w.heap.size 24 (confBox c ca cc) := (Blk.new w _ _).alloc _
  have hF : Blk ((w.alloc (.cells #[.int .i64 c.N, .int .i64 c.Pi, .int .i64 c.E, .int .i64 c.G, .int .i64 c.F, .slice ca c.P.length cc] 24)).alloc (.cells #[.int .i64 f.K, .int .i64 f.At, .int .i64 f.F, .int .i64 f.To, .slice a f.A.length ac, .slice d f.D.length dc] 27)) (w.heap.size + 1) 27 (faBox f a ac d dc) := Blk.newAt _ _ (by simp)
  have HH := Lib.hid (fun W => lHits_any c ca cc f a ac d dc i j W hc hi ⟨by omega, by omega⟩)
  have HC := Lib.hid (fun W => clone_any ⟨b.toArray⟩ W (by rw [size_mk]; omega))
  have HX := Lib.hid (show emitL c f r s i j b = if hitsB c f i j = false ∨ f.To ≤ r then b else if r < f.F ∨ f.A = [] then [] else actL c (pickA f.A (17 * r + 5 * s + j)) r s b from rfl)
  by_cases h1 : f.To ≤ r
  · have HE := Lib.hid (show emitL c f r s i j b = b by rw [HX.out, if_pos (.inr h1)])
    have d1 : decide (f.To ≤ r) = true := by simpa using h1
    clear h1 HX
    go_enter Tryz.func15, Tryz.ntmps15
    go_wp2_with fail
    refine (HC.out _).mono ?_
    rintro e wn ⟨rfl, hb1⟩
    go_wp2
    go_ret
    exact ⟨ret_str HE.out.symm, hB0.trans (hb1.mono hB0.size)⟩
  · have d1 : decide (f.To ≤ r) = false := by simpa using h1
    cases h2 : hitsB c f i j
    · have HE := Lib.hid (show emitL c f r s i j b = b by rw [HX.out, if_pos (.inl h2)])
      rw [h2] at HH
      clear h1 h2 HX
      go_enter Tryz.func15, Tryz.ntmps15
      go_wp2_with fail
      refine (HH.out _).mono ?_
      rintro e wm ⟨rfl, hb2⟩
      replace hB0 := hB0.trans (hb2.mono hB0.size)
      go_wp2_with fail
      refine (HC.out _).mono ?_
      rintro e wn ⟨rfl, hb1⟩
      go_wp2
      go_ret
      exact ⟨ret_str HE.out.symm, hB0.trans (hb1.mono hB0.size)⟩
    · have HX2 := Lib.hid (show emitL c f r s i j b = if r < f.F ∨ f.A = [] then [] else actL c (pickA f.A (17 * r + 5 * s + j)) r s b by rw [HX.out, if_neg (by simp [h2]; omega)])
      rw [h2] at HH
      clear h2 HX
      by_cases h3 : r < f.F
      · have HE := Lib.hid (show emitL c f r s i j b = [] by rw [HX2.out, if_pos (.inl h3)])
        have d2 : decide (r < f.F) = true := by simpa using h3
        clear h1 h3 HX2
        go_enter Tryz.func15, Tryz.ntmps15
        go_wp2_with fail
        refine (HH.out _).mono ?_
        rintro e wm ⟨rfl, hb2⟩
        replace hB0 := hB0.trans (hb2.mono hB0.size)
        replace hF := hF.later hb2
        have hQf := hF.at
        unfold faBox at hQf
        clear hb2
        go_wp2
        go_ret
        exact ⟨ret_str HE.out.symm, hB0⟩
      · have d2 : decide (r < f.F) = false := by simpa using h3
        by_cases h4 : f.A.length = 0
        · have HE := Lib.hid (show emitL c f r s i j b = [] by rw [HX2.out, if_pos (.inr (List.eq_nil_of_length_eq_zero h4))])
          have d3 : ((f.A.length : Int) == 0) = true := by simpa using h4
          clear h1 h3 h4 HX2
          go_enter Tryz.func15, Tryz.ntmps15
          go_wp2_with fail
          refine (HH.out _).mono ?_
          rintro e wm ⟨rfl, hb2⟩
          replace hB0 := hB0.trans (hb2.mono hB0.size)
          replace hF := hF.later hb2
          have hQf := hF.at
          unfold faBox at hQf
          clear hb2
          go_wp2
          go_ret
          exact ⟨ret_str HE.out.symm, hB0⟩
        · have hne : f.A ≠ [] := by intro h; rw [h] at h4; simp at h4
          have HE := Lib.hid (show emitL c f r s i j b = actL c (pickA f.A (17 * r + 5 * s + j)) r s b by rw [HX2.out, if_neg (by simp [hne]; omega)])
          have d3 : ((f.A.length : Int) == 0) = false := by simpa using h4
          have HP := Lib.hid (fun W (h : RowA W a f.A) => lpickA_any a f.A ac (17 * r + 5 * s + j) W h (by omega) hl)
          have hpT : (pickA f.A (17 * r + 5 * s + j)).T.length ≤ 1048576 := by
            obtain ⟨k, hk, hk2⟩ := emod_at f.A (17 * r + 5 * s + j) (by omega)
            unfold pickA
            rw [hk]
            simp [hk2]
            exact ht _ (List.getElem_mem hk2)
          have HM := Lib.hid (fun W => lemitted_any c ca cc (pickA f.A (17 * r + 5 * s + j)) r s b W hc r0 (by omega) s0 s1 hb hpT)
          clear h1 h3 h4 HX2 hne hpT
          generalize pickA f.A (17 * r + 5 * s + j) = t at *
          have hs15 : slotsI c ≤ 15 := by have := hc.n12; have := hc.len; unfold slotsI; omega
          have z1 : IntKind.i64.wrap (17 * r) = 17 * r := wrap_in _ (by omega) (by omega)
          have z2 : IntKind.i64.wrap (5 * s) = 5 * s := wrap_in _ (by omega) (by omega)
          have z3 : IntKind.i64.wrap (17 * r + 5 * s) = 17 * r + 5 * s := wrap_in _ (by omega) (by omega)
          have z4 : IntKind.i64.wrap (17 * r + 5 * s + j) = 17 * r + 5 * s + j := wrap_in _ (by omega) (by omega)
          go_enter Tryz.func15, Tryz.ntmps15
          go_wp2_with fail
          refine (HH.out _).mono ?_
          rintro e wm ⟨rfl, hb2⟩
          replace hB0 := hB0.trans (hb2.mono hB0.size)
          replace hF := hF.later hb2
          replace hC := hC.later hb2
          have hAm := hA.later hB0
          have hQf := hF.at
          unfold faBox at hQf
          clear hb2
          go_upto_region 5 with fail
          refine region_slots [some 41, some 42, some 43, some 44, some 45, some 46, some 47, some 48, some 49, some 50, some 51, some 52, some 53, some 54, some 55, some 14] [none, none, none, none, none, none, none, none, none, none, none, none, none, none, none, none] 56 16 rfl (by kernel_rfl) (by kernel_rfl) rfl rfl ?_
          apply step_fix
          · intro a W Zs hS hFm hz hd
            have h7 := hFm.old 7 rfl
            conv at h7 => rhs; whnf
            replace h7 := ev_get hFm.size h7
            have hq := (hC.drew1.later hS).at
            unfold confBox at hq
            refine .inl ⟨wanted_none rfl _, fun K hK => ?_⟩
            have HK := Lib.hid hK
            clear hd hFm hK
            go_simp
            exact HK.out _ _ rfl (Below.refl _ _)
          simp only [List.nil_append, List.cons_append]
          apply step_fix
          · intro a W Zs hS hFm hz hd
            have h8 := hFm.old 8 rfl
            conv at h8 => rhs; whnf
            replace h8 := ev_get hFm.size h8
            refine .inl ⟨wanted_none rfl _, fun K hK => ?_⟩
            have HK := Lib.hid hK
            clear hd hFm hK
            go_simp
            exact HK.out _ _ rfl (Below.refl _ _)
          simp only [List.nil_append, List.cons_append]
          apply step_fix
          · intro a W Zs hS hFm hz hd
            have h42 := ev_get hFm.size (hd 1 42 rfl rfl)
            have hq := (hF.drew1.later hS).at
            unfold faBox at hq
            refine .inl ⟨wanted_none rfl _, fun K hK => ?_⟩
            have HK := Lib.hid hK
            clear hd hFm hK
            go_simp
            exact HK.out _ _ rfl (Below.refl _ _)
          simp only [List.nil_append, List.cons_append]
          apply step_fix
          · intro a W Zs hS hFm hz hd
            have h2 := hFm.old 2 rfl
            conv at h2 => rhs; whnf
            replace h2 := ev_get hFm.size h2
            refine .inl ⟨wanted_none rfl _, fun K hK => ?_⟩
            have HK := Lib.hid hK
            clear hd hFm hK
            go_simp
            exact HK.out _ _ rfl (Below.refl _ _)
          simp only [List.nil_append, List.cons_append]
          apply step_fix
          · intro a W Zs hS hFm hz hd
            have h44 := ev_get hFm.size (hd 3 44 rfl rfl)
            refine .inl ⟨wanted_none rfl _, fun K hK => ?_⟩
            have HK := Lib.hid hK
            clear hd hFm hK
            go_simp
            exact HK.out _ _ rfl (Below.refl _ _)
          simp only [List.nil_append, List.cons_append]
          apply step_fix
          · intro a W Zs hS hFm hz hd
            have h3 := hFm.old 3 rfl
            conv at h3 => rhs; whnf
            replace h3 := ev_get hFm.size h3
            refine .inl ⟨wanted_none rfl _, fun K hK => ?_⟩
            have HK := Lib.hid hK
            clear hd hFm hK
            go_simp
            exact HK.out _ _ rfl (Below.refl _ _)
          simp only [List.nil_append, List.cons_append]
          apply step_fix
          · intro a W Zs hS hFm hz hd
            have h46 := ev_get hFm.size (hd 5 46 rfl rfl)
            refine .inl ⟨wanted_none rfl _, fun K hK => ?_⟩
            have HK := Lib.hid hK
            clear hd hFm hK
            go_simp
            exact HK.out _ _ rfl (Below.refl _ _)
          simp only [List.nil_append, List.cons_append]
          apply step_fix
          · intro a W Zs hS hFm hz hd
            have h45 := ev_get hFm.size (hd 4 45 rfl rfl)
            have h47 := ev_get hFm.size (hd 6 47 rfl rfl)
            refine .inl ⟨wanted_none rfl _, fun K hK => ?_⟩
            have HK := Lib.hid hK
            clear hd hFm hK
            go_simp
            exact HK.out _ _ rfl (Below.refl _ _)
          simp only [List.nil_append, List.cons_append]
          apply step_fix
          · intro a W Zs hS hFm hz hd
            have h5 := hFm.old 5 rfl
            conv at h5 => rhs; whnf
            replace h5 := ev_get hFm.size h5
            refine .inl ⟨wanted_none rfl _, fun K hK => ?_⟩
            have HK := Lib.hid hK
            clear hd hFm hK
            go_simp
            exact HK.out _ _ rfl (Below.refl _ _)
          simp only [List.nil_append, List.cons_append]
          apply step_fix
          · intro a W Zs hS hFm hz hd
            have h48 := ev_get hFm.size (hd 7 48 rfl rfl)
            have h49 := ev_get hFm.size (hd 8 49 rfl rfl)
            refine .inl ⟨wanted_none rfl _, fun K hK => ?_⟩
            have HK := Lib.hid hK
            clear hd hFm hK
            go_simp
            exact HK.out _ _ rfl (Below.refl _ _)
          simp only [List.nil_append, List.cons_append]
          apply step_fix
          · intro a W Zs hS hFm hz hd
            have h43 := ev_get hFm.size (hd 2 43 rfl rfl)
            have h50 := ev_get hFm.size (hd 9 50 rfl rfl)
            refine .inl ⟨wanted_none rfl _, fun K hK => ?_⟩
            have HK := Lib.hid hK
            clear hd hFm hK
            go_simp
            refine (HP.out _ (hAm.drew1.later hS)).mono ?_
            rintro e W' ⟨rfl, hb⟩
            exact HK.out _ _ rfl hb
          simp only [List.nil_append, List.cons_append]
          apply step_fix
          · intro a W Zs hS hFm hz hd
            have h2 := hFm.old 2 rfl
            conv at h2 => rhs; whnf
            replace h2 := ev_get hFm.size h2
            refine .inl ⟨wanted_none rfl _, fun K hK => ?_⟩
            have HK := Lib.hid hK
            clear hd hFm hK
            go_simp
            exact HK.out _ _ rfl (Below.refl _ _)
          simp only [List.nil_append, List.cons_append]
          apply step_fix
          · intro a W Zs hS hFm hz hd
            have h3 := hFm.old 3 rfl
            conv at h3 => rhs; whnf
            replace h3 := ev_get hFm.size h3
            refine .inl ⟨wanted_none rfl _, fun K hK => ?_⟩
            have HK := Lib.hid hK
            clear hd hFm hK
            go_simp
            exact HK.out _ _ rfl (Below.refl _ _)
          simp only [List.nil_append, List.cons_append]
          apply step_fix
          · intro a W Zs hS hFm hz hd
            have h6 := hFm.old 6 rfl
            conv at h6 => rhs; whnf
            replace h6 := ev_get hFm.size h6
            refine .inl ⟨wanted_none rfl _, fun K hK => ?_⟩
            have HK := Lib.hid hK
            clear hd hFm hK
            go_simp
            exact HK.out _ _ rfl (Below.refl _ _)
          simp only [List.nil_append, List.cons_append]
          apply step_fix
          · intro a W Zs hS hFm hz hd
            have h41 := ev_get hFm.size (hd 0 41 rfl rfl)
            have h51 := ev_get hFm.size (hd 10 51 rfl rfl)
            have h52 := ev_get hFm.size (hd 11 52 rfl rfl)
            have h53 := ev_get hFm.size (hd 12 53 rfl rfl)
            have h54 := ev_get hFm.size (hd 13 54 rfl rfl)
            refine .inl ⟨wanted_none rfl _, fun K hK => ?_⟩
            have HK := Lib.hid hK
            clear hd hFm hK
            go_simp
            refine (HM.out _).mono ?_
            rintro e W' ⟨rfl, hb⟩
            exact HK.out _ _ rfl hb
          simp only [List.nil_append, List.cons_append]
          apply step_fix
          · intro a W Zs hS hFm hz hd
            have h55 := ev_get hFm.size (hd 14 55 rfl rfl)
            refine .inl ⟨wanted_none rfl _, fun K hK => ?_⟩
            have HK := Lib.hid hK
            clear hd hFm hK
            go_simp
            exact HK.out _ _ rfl (Below.refl _ _)
          simp only [List.nil_append, List.cons_append]
          intro a wj Zs hS hFm hz hd
          have e14 := hd 15 14 (by decide) rfl
          have e0 := hFm.old 0 rfl
          conv at e0 => rhs; whnf
          have e1 := hFm.old 1 rfl
          conv at e1 => rhs; whnf
          have e2 := hFm.old 2 rfl
          conv at e2 => rhs; whnf
          have e3 := hFm.old 3 rfl
          conv at e3 => rhs; whnf
          have e4 := hFm.old 4 rfl
          conv at e4 => rhs; whnf
          have e5 := hFm.old 5 rfl
          conv at e5 => rhs; whnf
          have e6 := hFm.old 6 rfl
          conv at e6 => rhs; whnf
          have e7 := hFm.old 7 rfl
          conv at e7 => rhs; whnf
          have e8 := hFm.old 8 rfl
          conv at e8 => rhs; whnf
          have e9 := hFm.old 9 rfl
          conv at e9 => rhs; whnf
          have e10 := hFm.old 10 rfl
          conv at e10 => rhs; whnf
          have e11 := hFm.old 11 rfl
          conv at e11 => rhs; whnf
          have e12 := hFm.old 12 rfl
          conv at e12 => rhs; whnf
          have e13 := hFm.old 13 rfl
          conv at e13 => rhs; whnf
          have e15 := hFm.old 15 rfl
          conv at e15 => rhs; whnf
          have e16 := hFm.old 16 rfl
          conv at e16 => rhs; whnf
          have e17 := hFm.old 17 rfl
          conv at e17 => rhs; whnf
          have e18 := hFm.old 18 rfl
          conv at e18 => rhs; whnf
          have e19 := hFm.old 19 rfl
          conv at e19 => rhs; whnf
          have e20 := hFm.old 20 rfl
          conv at e20 => rhs; whnf
          have e21 := hFm.old 21 rfl
          conv at e21 => rhs; whnf
          have e22 := hFm.old 22 rfl
          conv at e22 => rhs; whnf
          have e23 := hFm.old 23 rfl
          conv at e23 => rhs; whnf
          have e24 := hFm.old 24 rfl
          conv at e24 => rhs; whnf
          have e25 := hFm.old 25 rfl
          conv at e25 => rhs; whnf
          have e26 := hFm.old 26 rfl
          conv at e26 => rhs; whnf
          have e27 := hFm.old 27 rfl
          conv at e27 => rhs; whnf
          have e28 := hFm.old 28 rfl
          conv at e28 => rhs; whnf
          have e29 := hFm.old 29 rfl
          conv at e29 => rhs; whnf
          have e30 := hFm.old 30 rfl
          conv at e30 => rhs; whnf
          have e31 := hFm.old 31 rfl
          conv at e31 => rhs; whnf
          have e32 := hFm.old 32 rfl
          conv at e32 => rhs; whnf
          have e33 := hFm.old 33 rfl
          conv at e33 => rhs; whnf
          have e34 := hFm.old 34 rfl
          conv at e34 => rhs; whnf
          have e35 := hFm.old 35 rfl
          conv at e35 => rhs; whnf
          have e36 := hFm.old 36 rfl
          conv at e36 => rhs; whnf
          have e37 := hFm.old 37 rfl
          conv at e37 => rhs; whnf
          have e38 := hFm.old 38 rfl
          conv at e38 => rhs; whnf
          have e39 := hFm.old 39 rfl
          conv at e39 => rhs; whnf
          have e40 := hFm.old 40 rfl
          conv at e40 => rhs; whnf
          have hsz := hFm.size
          have hdf := hFm.defers
          clear hd hFm
          obtain ⟨t, df⟩ := a
          simp only at hsz hdf
          subst hdf
          obtain ⟨x, hx⟩ : ∃ x : Nat → Value, ∀ i, t.getD i undef = x i := ⟨fun i => t.getD i undef, fun _ => rfl⟩
          have h14 := (hx 14).symm.trans e14
          have h0 := (hx 0).symm.trans e0
          have h1 := (hx 1).symm.trans e1
          have h2 := (hx 2).symm.trans e2
          have h3 := (hx 3).symm.trans e3
          have h4 := (hx 4).symm.trans e4
          have h5 := (hx 5).symm.trans e5
          have h6 := (hx 6).symm.trans e6
          have h7 := (hx 7).symm.trans e7
          have h8 := (hx 8).symm.trans e8
          have h9 := (hx 9).symm.trans e9
          have h10 := (hx 10).symm.trans e10
          have h11 := (hx 11).symm.trans e11
          have h12 := (hx 12).symm.trans e12
          have h13 := (hx 13).symm.trans e13
          have h15 := (hx 15).symm.trans e15
          have h16 := (hx 16).symm.trans e16
          have h17 := (hx 17).symm.trans e17
          have h18 := (hx 18).symm.trans e18
          have h19 := (hx 19).symm.trans e19
          have h20 := (hx 20).symm.trans e20
          have h21 := (hx 21).symm.trans e21
          have h22 := (hx 22).symm.trans e22
          have h23 := (hx 23).symm.trans e23
          have h24 := (hx 24).symm.trans e24
          have h25 := (hx 25).symm.trans e25
          have h26 := (hx 26).symm.trans e26
          have h27 := (hx 27).symm.trans e27
          have h28 := (hx 28).symm.trans e28
          have h29 := (hx 29).symm.trans e29
          have h30 := (hx 30).symm.trans e30
          have h31 := (hx 31).symm.trans e31
          have h32 := (hx 32).symm.trans e32
          have h33 := (hx 33).symm.trans e33
          have h34 := (hx 34).symm.trans e34
          have h35 := (hx 35).symm.trans e35
          have h36 := (hx 36).symm.trans e36
          have h37 := (hx 37).symm.trans e37
          have h38 := (hx 38).symm.trans e38
          have h39 := (hx 39).symm.trans e39
          have h40 := (hx 40).symm.trans e40
          have ht' : t = #[x 0, x 1, x 2, x 3, x 4, x 5, x 6, x 7, x 8, x 9, x 10, x 11, x 12, x 13, x 14, x 15, x 16, x 17, x 18, x 19, x 20, x 21, x 22, x 23, x 24, x 25, x 26, x 27, x 28, x 29, x 30, x 31, x 32, x 33, x 34, x 35, x 36, x 37, x 38, x 39, x 40, x 41, x 42, x 43, x 44, x 45, x 46, x 47, x 48, x 49, x 50, x 51, x 52, x 53, x 54, x 55] := frame_lit t 56 hsz x hx
          clear hx hsz hz e14 e0 e1 e2 e3 e4 e5 e6 e7 e8 e9 e10 e11 e12 e13 e15 e16 e17 e18 e19 e20 e21 e22 e23 e24 e25 e26 e27 e28 e29 e30 e31 e32 e33 e34 e35 e36 e37 e38 e39 e40
          subst ht'
          dsimp only
          rw [h14, h0, h1, h2, h3, h4, h5, h6, h7, h8, h9, h10, h11, h12, h13, h15, h16, h17, h18, h19, h20, h21, h22, h23, h24, h25, h26, h27, h28, h29, h30, h31, h32, h33, h34, h35, h36, h37, h38, h39, h40]
          clear h14 h0 h1 h2 h3 h4 h5 h6 h7 h8 h9 h10 h11 h12 h13 h15 h16 h17 h18 h19 h20 h21 h22 h23 h24 h25 h26 h27 h28 h29 h30 h31 h32 h33 h34 h35 h36 h37 h38 h39 h40
          have hb1 := from_drew hS
          go_wp2
          go_ret
          exact ⟨ret_str HE.out.symm, hB0.trans (hb1.mono hB0.size)⟩

end Go.Proofs.YtbghpkdkfbpmeaaGreat
/-
  Contracts of the laws' own helpers: within, Text, known.
-/
namespace Go.Proofs.YtbghpkdkfbpmeaaGreat
open Go.RowKit Plait
set_option maxRecDepth 100000
set_option linter.unusedVariables false

theorem within_any (a n : Int) (w : World) (hn : 0 < n) (hn2 : n ≤ 1099511627776) :
    Calls Tryz.prog 43 #[.int .i64 a, .int .i64 n] w fun e w' => e = .returned (.int .i64 (a % n)) ∧ w = w' := by
  have b1 : 0 ≤ a % n := Int.emod_nonneg _ (by omega)
  have b2 : a % n < n := Int.emod_lt_of_pos _ hn
  by_cases h0 : 0 ≤ a
  · go_enter Tryz.func43, Tryz.ntmps43
    go_wp2
    go_ret
    exact ⟨rfl, rfl⟩
  · have h1 : a.tmod n = -((-a) % n) := by
      rw [show a = -(-a) by omega, Int.neg_tmod, Int.tmod_eq_emod_of_nonneg (by omega)]; simp
    have c1 : 0 ≤ (-a) % n := Int.emod_nonneg _ (by omega)
    have c2 : (-a) % n < n := Int.emod_lt_of_pos _ hn
    by_cases hz : (-a) % n = 0
    · have h2 : a.tmod n = 0 := by rw [h1, hz]; rfl
      have HF := Lib.hid (show (0 : Int) = a % n by
        have : n ∣ -a := Int.dvd_of_emod_eq_zero hz
        exact (Int.emod_eq_zero_of_dvd (Int.dvd_neg.1 this)).symm)
      clear h1 hz c1 c2 b1 b2
      go_enter Tryz.func43, Tryz.ntmps43
      go_wp2
      go_ret
      exact ⟨ret_int HF.out, rfl⟩
    · obtain ⟨r, hr⟩ : ∃ r, r = (-a) % n := ⟨_, rfl⟩
      rw [← hr] at h1 c1 c2 hz
      have HF := Lib.hid (show -r + n = a % n by
        have e := Int.emod_add_mul_ediv (-a) n
        rw [← hr] at e
        have e2 : a = (-r + n) + n * (-((-a) / n) - 1) := by rw [Int.mul_sub, Int.mul_neg]; omega
        rw [e2, Int.add_mul_emod_self_left]
        exact (Int.emod_eq_of_lt (by omega) (by omega)).symm)
      clear hr b1 b2
      go_enter Tryz.func43, Tryz.ntmps43
      go_wp2
      go_ret
      exact ⟨ret_int HF.out, rfl⟩

end Go.Proofs.YtbghpkdkfbpmeaaGreat
/-
  Contract of the laws' Text: signs by numbers; nothing that was in memory is changed.
-/
namespace Go.Proofs.YtbghpkdkfbpmeaaGreat
open Go.RowKit Plait
set_option maxRecDepth 100000
set_option linter.unusedVariables false

/-- The loop of Text. -/
def TextAtL (zs : List Int) (w : World) (s i : Value) (w' : World) : Prop :=
  ∃ k : Nat, k ≤ zs.length ∧ k ≤ 80 ∧ i = .int .i64 k ∧ s = .string ⟨((zs.take k).map signOf).toArray⟩ ∧ Below w.heap.size w w'

theorem sign_cell (j : Nat) (h : j < 11) : [Value.string ⟨#[48]⟩, Value.string ⟨#[49]⟩, Value.string ⟨#[48]⟩, Value.string ⟨#[49]⟩, Value.string ⟨#[48]⟩, Value.string ⟨#[49]⟩, Value.string ⟨#[48]⟩, Value.string ⟨#[49]⟩, Value.string ⟨#[35]⟩, Value.string ⟨#[46]⟩, Value.string ⟨#[120]⟩][j]'(by simpa using h) = .string ⟨#[signs.getD j 0]⟩ := by
  have h' : j = 0 ∨ j = 1 ∨ j = 2 ∨ j = 3 ∨ j = 4 ∨ j = 5 ∨ j = 6 ∨ j = 7 ∨ j = 8 ∨ j = 9 ∨ j = 10 := by omega
  rcases h' with rfl | rfl | rfl | rfl | rfl | rfl | rfl | rfl | rfl | rfl | rfl <;> rfl

theorem sign_take (zs : List Int) (k : Nat) (h : k < zs.length) (j : Nat) (hj : zs[k] % 11 = j) : (zs.take (k + 1)).map signOf = (zs.take k).map signOf ++ [signs.getD j 0] := by
  rw [List.take_succ_eq_append_getElem h, List.map_append]
  simp [signOf, hj]

theorem textL_of (zs : List Int) (k : Nat) (h : k ≤ zs.length) (h2 : k ≤ 80) (h3 : k = zs.length ∨ k = 80) : (zs.take k).map signOf = textL zs := by
  unfold textL
  rcases h3 with rfl | rfl
  · rw [List.take_of_length_le (Nat.le_refl _), List.take_of_length_le h2]
  · rfl

set_option maxHeartbeats 800000 in
theorem text_any (a : Option Addr) (zs : List Int) (cap : Nat) (w : World) (hrow : Row w a zs) :
    Calls Tryz.prog 21 #[.slice a zs.length cap] w fun e w' => e = .returned (.string ⟨(textL zs).toArray⟩) ∧ Below w.heap.size w w' := by
  have hl := hrow.1
  go_enter Tryz.func21, Tryz.ntmps21
  go_wp2
  go_loopw [3, 4] (fun s i w' => TextAtL zs w s i w') (fun _ i _ => zs.length - (intOf i).toNat)
  case atStart => exact ⟨0, Nat.zero_le _, Nat.zero_le _, rfl, by simp, Below.refl _ _⟩
  case round =>
    obtain ⟨k, hk, hk2, rfl, rfl, hb⟩ := hrel
    by_cases hlt : k < zs.length
    · have d1 : decide (k < zs.length) = true := by simpa using hlt
      by_cases h80 : k < 80
      · have d2 : decide ((k : Int) < 80) = true := by simp; omega
        have hlen : ((zs.take k).map signOf).length ≤ 80 := by simp; omega
        obtain ⟨_, hz, h3⟩ := hrow
        rcases h3 with h3 | ⟨b, off, rfl, hbl, hc⟩
        · rw [h3] at hlt; simp at hlt
        have hck : wr.cell? ⟨b, off + k, none⟩ = some (.int .i64 zs[k]) := by rw [hb.cell (p := ⟨b, off + k, none⟩) hbl]; exact hc k hlt
        have hzk := hz zs[k] (List.getElem_mem hlt)
        obtain ⟨j, hj⟩ : ∃ j : Nat, zs[k] % 11 = j := ⟨(zs[k] % 11).toNat, by omega⟩
        have hj11 : j < 11 := by omega
        have HT := Lib.hid (sign_take zs k hlt j hj)
        have hsg := sign_cell j hj11
        generalize signs.getD j 0 = c at *
        generalize (zs.take k).map signOf = L at *
        have HC := Lib.hid hc
        have HZ := Lib.hid hz
        clear hc hz
        have hbw := hb.size
        have hbl2 : b < wr.heap.size := by omega
        have HJ := Lib.hid hj
        clear hj
        go_wp2_with fail
        refine (within_any _ _ _ (by omega) (by omega)).mono ?_
        rintro e w2 ⟨rfl, rfl⟩
        rw [HJ.out]
        go_wp2
        go_roundw
        case rel => exact ⟨k + 1, by omega, by omega, by go_num, by rw [HT.out], hb.alloc hbw _⟩
        case measure => simp [intOf]; omega
      · have d2 : decide ((k : Int) < 80) = false := by simp; omega
        rw [textL_of zs k hk hk2 (.inr (by omega))]
        go_wp2
        go_ret
        exact ⟨rfl, hb⟩
    · have d1 : decide (k < zs.length) = false := by simpa using hlt
      rw [textL_of zs k hk hk2 (.inl (by omega))]
      go_wp2
      go_ret
      exact ⟨rfl, hb⟩

end Go.Proofs.YtbghpkdkfbpmeaaGreat
/-
  plaitinglaw6's within, known and Few.
-/
namespace Go.Proofs.YtbghpkdkfbpmeaaGreat
open Go.RowKit Plait
set_option maxRecDepth 100000
set_option linter.unusedVariables false

theorem within6_any (a n : Int) (w : World) (hn : 0 < n) (hn2 : n ≤ 1099511627776) :
    Calls Tryz.prog 9 #[.int .i64 a, .int .i64 n] w fun e w' => e = .returned (.int .i64 (a % n)) ∧ w = w' := by
  have b1 : 0 ≤ a % n := Int.emod_nonneg _ (by omega)
  have b2 : a % n < n := Int.emod_lt_of_pos _ hn
  by_cases h0 : 0 ≤ a
  · go_enter Tryz.func9, Tryz.ntmps9
    go_wp2
    go_ret
    exact ⟨rfl, rfl⟩
  · have h1 : a.tmod n = -((-a) % n) := by
      rw [show a = -(-a) by omega, Int.neg_tmod, Int.tmod_eq_emod_of_nonneg (by omega)]; simp
    have c1 : 0 ≤ (-a) % n := Int.emod_nonneg _ (by omega)
    have c2 : (-a) % n < n := Int.emod_lt_of_pos _ hn
    by_cases hz : (-a) % n = 0
    · have h2 : a.tmod n = 0 := by rw [h1, hz]; rfl
      have HF := Lib.hid (show (0 : Int) = a % n by
        have : n ∣ -a := Int.dvd_of_emod_eq_zero hz
        exact (Int.emod_eq_zero_of_dvd (Int.dvd_neg.1 this)).symm)
      clear h1 hz c1 c2 b1 b2
      go_enter Tryz.func9, Tryz.ntmps9
      go_wp2
      go_ret
      exact ⟨ret_int HF.out, rfl⟩
    · obtain ⟨r, hr⟩ : ∃ r, r = (-a) % n := ⟨_, rfl⟩
      rw [← hr] at h1 c1 c2 hz
      have HF := Lib.hid (show -r + n = a % n by
        have e := Int.emod_add_mul_ediv (-a) n
        rw [← hr] at e
        have e2 : a = (-r + n) + n * (-((-a) / n) - 1) := by rw [Int.mul_sub, Int.mul_neg]; omega
        rw [e2, Int.add_mul_emod_self_left]
        exact (Int.emod_eq_of_lt (by omega) (by omega)).symm)
      clear hr b1 b2
      go_enter Tryz.func9, Tryz.ntmps9
      go_wp2
      go_ret
      exact ⟨ret_int HF.out, rfl⟩

/-- The chapter's examples. -/
def l0 : Fa := ⟨0, 0, 0, 0, [], []⟩
def l9 : Fa := ⟨9, 0, 0, 0, [], []⟩

set_option maxHeartbeats 1600000 in
theorem known6_any (w : World) : Calls Tryz.prog 5 #[] w fun e w' => e = .returned (.bool true) ∧ Below w.heap.size w w' := by
  have HT := Lib.hid (fun W => lEmit_any c0 none 0 l0 none 0 none 0 0 0 0 1 [48, 49] W c0_ok (RowA.empty _ _) (by decide) (by intro x hx; cases hx) (by decide) (by decide) (by decide) (by decide) ⟨by decide, by decide⟩ (by decide) (by decide) (by decide))
  have HR := Lib.hid (fun W => lRight_any c0 none 0 l0 none 0 none 0 0 0 W)
  have HC := Lib.hid (fun W => lCheck_any c0 none 0 l9 none 0 none 0 W c0_ok (RowA.empty _ _) (by decide))
  have e1 : emitL c0 l0 0 0 0 1 [48, 49] = [48, 49] := by decide
  have e2 : rightB l0 0 0 = true := by decide
  have e3 : checkL c0 l9 = 6 := by decide
  rw [e1] at HT
  rw [e2] at HR
  rw [e3] at HC
  clear e1 e2 e3
  go_enter Tryz.func5, Tryz.ntmps5
  go_wp2_with fail
  refine (HT.out _).mono ?_
  rintro e wn ⟨rfl, hb⟩
  obtain ⟨hB, hK, hZ⟩ := boxed hb
  have hQ := hK.at
  clear hb
  go_wp2_with fail
  refine (HR.out _).mono ?_
  rintro e wn ⟨rfl, hb⟩
  clear hQ
  obtain ⟨hB, hK, hZ⟩ := boxed_on hB hK hb
  have hQ := hK.at
  clear hb
  go_wp2_with fail
  refine (HC.out _).mono ?_
  rintro e wm ⟨rfl, hb⟩
  go_wp2
  go_ret
  exact ⟨rfl, hB.trans (hb.mono hB.size)⟩

theorem few_spec (f : Fa) : fewL f = (f.A.all (fun a => decide (a.T.length ≤ 1200)) && decide ((f.A.length : Int) ≤ 50) && decide ((f.D.length : Int) ≤ 50)) := by
  unfold fewL
  congr 1
  · congr 1
    rw [decide_eq_decide]; omega
  · rw [decide_eq_decide]; omega

set_option maxHeartbeats 800000 in
theorem few6_any (f : Fa) (a : Option Addr) (ac : Nat) (d : Option Addr) (dc : Nat) (w : World) (hA : RowA w a f.A) (hD : f.D.length ≤ 9223372036854775807) :
    Calls Tryz.prog 6 #[.agg #[.int .i64 f.K, .int .i64 f.At, .int .i64 f.F, .int .i64 f.To, .slice a f.A.length ac, .slice d f.D.length dc]] w fun e w' => e = .returned (.bool (fewL f)) ∧ Below w.heap.size w w' := by
  have hlen := hA.1
  have hB0 : Below w.heap.size w (w.alloc (.cells #[.int .i64 f.K, .int .i64 f.At, .int .i64 f.F, .int .i64 f.To, .slice a f.A.length ac, .slice d f.D.length dc] 27)) := alloc_below w _
  have hF : Blk (w.alloc (.cells #[.int .i64 f.K, .int .i64 f.At, .int .i64 f.F, .int .i64 f.To, .slice a f.A.length ac, .slice d f.D.length dc] 27)) w.heap.size 27 (faBox f a ac d dc) := Blk.new w _ _
  have hA1 := hA.alloc (.cells #[.int .i64 f.K, .int .i64 f.At, .int .i64 f.F, .int .i64 f.To, .slice a f.A.length ac, .slice d f.D.length dc] 27)
  have hQ := hF.at
  unfold faBox at hQ
  have HX := Lib.hid (few_spec f)
  go_enter Tryz.func6, Tryz.ntmps6
  go_upto_region 1 with fail
  generalize w.alloc (.cells #[.int .i64 f.K, .int .i64 f.At, .int .i64 f.F, .int .i64 f.To, .slice a f.A.length ac, .slice d f.D.length dc] 27) = w1 at *
  go_wp2_with fail
  go_loopw [3] (fun i w' => ∃ k : Nat, k ≤ f.A.length ∧ i = .int .i64 k ∧ (f.A.take k).all (fun a => decide (a.T.length ≤ 1200)) = true ∧ w' = w1) (fun i _ => f.A.length - (intOf i).toNat)
  case atStart => exact ⟨0, Nat.zero_le _, rfl, by simp, rfl⟩
  case round =>
    obtain ⟨k, hk, rfl, hno, rfl⟩ := hrel
    have HN := Lib.hid hno
    clear hno
    by_cases hlt : k < f.A.length
    · have d1 : decide (k < f.A.length) = true := by simpa using hlt
      have d1' : decide ((k : Int) < (f.A.length : Int)) = true := by simp; omega
      obtain ⟨b, off, rfl, hbl, c1, c2, c3, _, _, hT⟩ := hA1.get k hlt
      by_cases hx : f.A[k].T.length ≤ 1200
      · have HS := Lib.hid (show (f.A.take (k + 1)).all (fun a => decide (a.T.length ≤ 1200)) = true by rw [List.take_succ_eq_append_getElem hlt, List.all_append, HN.out]; simpa using hx)
        generalize f.A[k] = t at *
        have d2 : decide ((1200 : Int) < (t.T.length : Int)) = false := by simp; omega
        go_wp2
        go_roundw
        case rel => exact ⟨k + 1, by omega, by go_num, HS.out, by trivial⟩
        case measure => simp [intOf]; omega
      · have HE := Lib.hid (show fewL f = false by
          rw [HX.out]
          have : f.A.all (fun a => decide (a.T.length ≤ 1200)) = false := by
            rw [List.all_eq_false]
            exact ⟨f.A[k], List.getElem_mem hlt, by simpa using hx⟩
          rw [this]
          rfl)
        generalize f.A[k] = t at *
        have d2 : decide ((1200 : Int) < (t.T.length : Int)) = true := by simp; omega
        go_wp2
        go_ret
        exact ⟨ret_bool HE.out.symm, hB0⟩
    · have d1 : decide (k < f.A.length) = false := by simpa using hlt
      have d1' : decide ((k : Int) < (f.A.length : Int)) = false := by simp; omega
      have HE := Lib.hid (show fewL f = (decide ((f.A.length : Int) ≤ 50) && decide ((f.D.length : Int) ≤ 50)) by
        rw [HX.out]
        have := HN.out
        rw [List.take_of_length_le (by omega)] at this
        rw [this]
        rfl)
      cases d3 : decide ((f.A.length : Int) ≤ 50)
      · rw [d3] at HE
        go_wp2
        go_ret
        exact ⟨ret_bool (by rw [HE.out]; rfl), hB0⟩
      · rw [d3] at HE
        go_wp2
        go_ret
        exact ⟨ret_bool (by rw [HE.out]; simp), hB0⟩

end Go.Proofs.YtbghpkdkfbpmeaaGreat
/-
  Rows of acts that a call made itself.
-/
namespace Go.Proofs.YtbghpkdkfbpmeaaGreat
open Go.RowKit Plait
set_option maxRecDepth 100000
set_option linter.unusedVariables false

/-- The cells of acts. -/
def acCells (ts : List Ac) : List Value := ts.flatMap fun t => [.int .i64 t.H, .int .i64 t.N, .string ⟨t.T.toArray⟩]

theorem acCells_cons (t : Ac) (r : List Ac) : acCells (t :: r) = [.int .i64 t.H, .int .i64 t.N, .string ⟨t.T.toArray⟩] ++ acCells r := by unfold acCells; rw [List.flatMap_cons]
theorem acCells_len : ∀ ts : List Ac, (acCells ts).length = ts.length * 3
  | [] => rfl
  | t :: r => by rw [acCells_cons, List.length_append, List.length_cons, acCells_len r]; simp; omega

theorem acCells_get : ∀ (ts : List Ac) (i : Nat) (h : i < ts.length), (acCells ts)[i * 3]? = some (.int .i64 ts[i].H) ∧ (acCells ts)[i * 3 + 1]? = some (.int .i64 ts[i].N) ∧ (acCells ts)[i * 3 + 2]? = some (.string ⟨ts[i].T.toArray⟩)
  | [], i, h => absurd h (by simp)
  | t :: r, 0, h => ⟨rfl, rfl, rfl⟩
  | t :: r, i + 1, h => by
    have ih := acCells_get r i (by simpa using h)
    rw [acCells_cons]
    refine ⟨?_, ?_, ?_⟩
    · rw [List.getElem?_append_right (by simp; omega), show (i + 1) * 3 - [Value.int .i64 t.H, Value.int .i64 t.N, Value.string ⟨t.T.toArray⟩].length = i * 3 by simp; omega]
      exact ih.1
    · rw [List.getElem?_append_right (by simp; omega), show (i + 1) * 3 + 1 - [Value.int .i64 t.H, Value.int .i64 t.N, Value.string ⟨t.T.toArray⟩].length = i * 3 + 1 by simp; omega]
      exact ih.2.1
    · rw [List.getElem?_append_right (by simp; omega), show (i + 1) * 3 + 2 - [Value.int .i64 t.H, Value.int .i64 t.N, Value.string ⟨t.T.toArray⟩].length = i * 3 + 2 by simp; omega]
      exact ih.2.2

theorem acCells_append (a b : List Ac) : acCells (a ++ b) = acCells a ++ acCells b := by simp [acCells]

/-- A row of acts that the call made itself. -/
def OwnA (base : Nat) (w : World) (v : Value) (ts : List Ac) : Prop := w.ownsRow base 49 3 v ts.length (acCells ts)

theorem OwnA.nil (base : Nat) (w : World) : OwnA base w (.slice none 0 0) [] := World.ownsRow_nil w base _ 3

theorem OwnA.form {base : Nat} {w : World} {v : Value} {ts : List Ac} (h : OwnA base w v ts) : ∃ a cap, v = .slice a ts.length cap := by
  rcases h.2 with ⟨hv, h0⟩ | ⟨g, cap, cur, hv, _⟩
  · exact ⟨none, 0, by rw [hv, h0]⟩
  · exact ⟨_, _, hv⟩

theorem OwnA.lt {base : Nat} {w : World} {v : Value} {ts : List Ac} (h : OwnA base w v ts) : ∀ k, v.ownBlock = some k → base ≤ k ∧ k < w.heap.size := World.ownsRow.lt h
theorem OwnA.later {base : Nat} {w w' : World} {v : Value} {ts : List Ac} (h : OwnA base w v ts) (hb : Below w.heap.size w w') : OwnA base w' v ts := by
  refine World.ownsRow.kept (row := none) h ⟨hb.os, hb.tape, hb.output, hb.size, fun k hk _ => hb.block k hk⟩ ?_
  cases hv : v.ownBlock
  · exact .inl rfl
  · exact .inr (by simp)
theorem OwnA.far {base : Nat} {w : World} {v : Value} {ts : List Ac} (h : OwnA base w v ts) (p : Addr) (u : Value) (hp : p.block < base) : OwnA base (w.setCell p u) v ts := by
  refine World.ownsRow.kept (row := some p.block) h ⟨rfl, rfl, rfl, by simp [World.setCell], fun k hk hne => Below.heap_setCell w p u k (fun e => hne (by rw [e]))⟩ ?_
  cases hv : v.ownBlock with
  | none => exact .inl rfl
  | some g =>
    refine .inr (fun e => ?_)
    have := (h.lt g hv).1
    injection e with e
    omega
/-- A store into a block that is not the row's. -/
theorem OwnA.apart {base : Nat} {w : World} {v : Value} {ts : List Ac} (h : OwnA base w v ts) (p : Addr) (u : Value) (hp : ∀ g, v.ownBlock = some g → g ≠ p.block) : OwnA base (w.setCell p u) v ts := by
  refine World.ownsRow.kept (row := some p.block) h ⟨rfl, rfl, rfl, by simp [World.setCell], fun k hk hne => Below.heap_setCell w p u k (fun e => hne (by rw [e]))⟩ ?_
  cases hv : v.ownBlock with
  | none => exact .inl rfl
  | some g => exact .inr (fun e => hp g hv (by injection e))

theorem OwnA.row {base : Nat} {w : World} {a : Option Addr} {n cap : Nat} {ts : List Ac} (h : OwnA base w (.slice a n cap) ts) (hl : ts.length ≤ 9223372036854775807) (hz : ∀ t ∈ ts, inI t.H ∧ inI t.N ∧ t.T.length ≤ 9223372036854775807) : RowA w a ts := by
  refine ⟨hl, hz, ?_⟩
  rcases Nat.eq_zero_or_pos ts.length with h0 | h0
  · exact .inl (List.eq_nil_of_length_eq_zero h0)
  · rcases h.2 with ⟨_, h1⟩ | ⟨g, cap', cur, hv, hg, hb, hcap, hmax, hsz, ht⟩
    · omega
    · have hA : a = some ⟨g, 0, none⟩ := by injection hv
      subst hA
      refine .inr ⟨g, 0, rfl, (Array.getElem?_eq_some_iff.1 hb).1, fun i hi => ?_⟩
      have hc := fun j u (hj : (acCells ts)[j]? = some u) => World.ownsRow.cells h (g := g) rfl j u hj
      have hi2 := acCells_get ts i hi
      have c1 := hc _ _ hi2.1
      have c2 := hc _ _ hi2.2.1
      have c3 := hc _ _ hi2.2.2
      rw [addr_at] at c1 c2 c3
      exact ⟨c1, c2, c3⟩

theorem infoAct : (Tryz.prog.info? 49).map (fun i => (i.zero, i.size, i.bytes)) = some (some (.agg #[.int .i64 0, .int .i64 0, .string ⟨#[]⟩]), 3, 32) := by kernel_rfl

/-- One act behind a row that the call made itself, at a plain region's list. -/
theorem wpList_appA {ops : Array Oper} {rest : List Oper} {o : Oper} {a : Act} {Q : Exit → Act → World → Prop} (w : World) (hgd : o.guard = none) (s x : Operand)
    (ho : o.op = .call { callee := .builtin .append, args := #[s, x], argTypes := #[25, 25] })
    (base : Nat) (v : Value) (ts : List Ac) (hs : a.eval s = v) (hown : OwnA base w v ts) (H c : Nat) (t : Ac) (hx : a.eval x = .slice (some ⟨H, 0, none⟩) 1 c)
    (hH : w.heap[H]? = some (.cells #[.int .i64 t.H, .int .i64 t.N, .string ⟨t.T.toArray⟩] 49 (0, 0))) (hlen : ts.length ≤ 1000000) (hbase : base ≤ w.heap.size)
    (h : ∀ g cap w', OwnA base w' (.slice (some ⟨g, 0, none⟩) (ts.length + 1) cap) (ts ++ [t]) → w.grownBy w' v.ownBlock → (v.ownBlock = some g ∨ g = w.heap.size) → g < w'.heap.size →
      wpList Tryz.prog ops Q rest (a.put o.dst (.slice (some ⟨g, 0, none⟩) (ts.length + 1) cap)) w') : wpList Tryz.prog ops Q (o :: rest) a w := by
  obtain ⟨i, hi, hz0, hz1, hz2⟩ := info_parts infoAct
  refine wpList_append_lies w hgd s x _ ho base 49 i (.agg #[.int .i64 0, .int .i64 0, .string ⟨#[]⟩]) 3 32 Tryz.underlying25 hi hz0 hz1 hz2 rfl (by omega) v ts.length _ hs hown ⟨H, 0, none⟩ 1 c [.int .i64 t.H, .int .i64 t.N, .string ⟨t.T.toArray⟩] hx rfl
    (World.news_of_block hH) (by simp [Value.oneCell']) (by omega) (by unfold maxLen; omega) (by omega) hbase _ rfl ?_
  intro g cap w' h1 h2 h3 h4
  refine h g cap w' ?_ h2 h3 h4
  unfold OwnA
  rw [List.length_append, acCells_append]
  exact h1

theorem RowA.grown {w w' : World} {a : Option Addr} {ts : List Ac} {row : Option Nat} (h : RowA w a ts) (hb : w.grownBy w' row) (hne : ts = [] ∨ ∀ x, a = some x → some x.block ≠ row) : RowA w' a ts := by
  obtain ⟨h1, h2, h3⟩ := h
  refine ⟨h1, h2, ?_⟩
  rcases h3 with h3 | ⟨b, off, rfl, hlt, hc⟩
  · exact .inl h3
  · rcases hne with hne | hne
    · exact .inl hne
    · have hk := hb.block b hlt (hne _ rfl)
      exact .inr ⟨b, off, rfl, Nat.lt_of_lt_of_le hlt hb.size, fun i hi => by rw [cell_agree hk, cell_agree hk, cell_agree hk]; exact hc i hi⟩

end Go.Proofs.YtbghpkdkfbpmeaaGreat

/-
  Contracts of plaitingref6, last part: what a locus emits, by the document's own chapter 6.
-/
import Derived.Test.YtbghpkdkfbpmeaaGreatK15
import Derived.Test.YtbghpkdkfbpmeaaGreatK16
import Derived.Test.YtbghpkdkfbpmeaaGreatK3
namespace Go.Proofs.YtbghpkdkfbpmeaaGreat
open Go.RowKit Plait
set_option maxRecDepth 100000
set_option linter.unusedVariables false
set_option linter.unusedSimpArgs false

theorem arr3 {cs : Array Value} (h : cs.size = 3) : ∃ u0 u1 u2, cs = #[u0, u1, u2] := by
  obtain ⟨l⟩ := cs
  match l, h with
  | [a, b, c], _ => exact ⟨a, b, c, rfl⟩
theorem Blk.fill3 {w : World} {g : Nat} {t : TypeId} {x0 x1 x2 : Value} (h : Blk w g t #[x0, x1, x2]) (u0 u1 u2 : Value) :
    Blk (((w.setCell ⟨g, 0, none⟩ u0).setCell ⟨g, 1, none⟩ u1).setCell ⟨g, 2, none⟩ u2) g t #[u0, u1, u2] := ((h.set 0 u0).set 1 u1).set 2 u2
theorem Only.fill3 (w : World) (g : Nat) (u0 u1 u2 : Value) : Only g w (((w.setCell ⟨g, 0, none⟩ u0).setCell ⟨g, 1, none⟩ u1).setCell ⟨g, 2, none⟩ u2) := (((Only.refl g w).set 0 u0).set 1 u1).set 2 u2

theorem RowA.cellsAt {w : World} {b off : Nat} {ts : List Ac} (h : RowA w (some ⟨b, off, none⟩) ts) (k : Nat) (hk : k < ts.length) : w.cell? ⟨b, off + k * 3, none⟩ = some (.int .i64 ts[k].H) ∧ w.cell? ⟨b, off + k * 3 + 1, none⟩ = some (.int .i64 ts[k].N) ∧ w.cell? ⟨b, off + k * 3 + 2, none⟩ = some (.string ⟨ts[k].T.toArray⟩) := by
  obtain ⟨b', off', e, _, h1, h2, h3, _⟩ := h.get k hk
  cases e
  exact ⟨h1, h2, h3⟩

set_option maxHeartbeats 3200000 in
theorem rEmit6_any (c : Cf) (ca : Option Addr) (cc : Nat) (f : Fa) (a : Option Addr) (ac : Nat) (d : Option Addr) (dc : Nat) (r s i j : Int) (b : List UInt8) (w : World) (hc : c.Ok) (hA : RowA w a f.A) (hl : f.A.length ≤ 1000000) (ht : ∀ x ∈ f.A, x.T.length ≤ 1048576)
    (r0 : 0 ≤ r) (r1 : r ≤ 1000000) (s0 : 0 ≤ s) (s1 : s < slotsI c) (hi : inI i) (j0 : 0 ≤ j) (j1 : j ≤ 1000000) (hb : b.length ≤ 1048576) :
    Calls Tryz.prog 16 #[.agg #[.int .i64 c.N, .int .i64 c.Pi, .int .i64 c.E, .int .i64 c.G, .int .i64 c.F, .slice ca c.P.length cc], .agg #[.int .i64 f.K, .int .i64 f.At, .int .i64 f.F, .int .i64 f.To, .slice a f.A.length ac, .slice d f.D.length dc], .int .i64 r, .int .i64 s, .int .i64 i, .int .i64 j, .string ⟨b.toArray⟩] w fun e w' => e = .returned (.string ⟨(emitL c f r s i j b).toArray⟩) ∧ Below w.heap.size w w' := by
  have hB0 : Below w.heap.size w ((w.alloc (.cells #[.int .i64 c.N, .int .i64 c.Pi, .int .i64 c.E, .int .i64 c.G, .int .i64 c.F, .slice ca c.P.length cc] 24)).alloc (.cells #[.int .i64 f.K, .int .i64 f.At, .int .i64 f.F, .int .i64 f.To, .slice a f.A.length ac, .slice d f.D.length dc] 27)) := (alloc_below w _).alloc (by simp) _
  have hC : Blk ((w.alloc (.cells #[.int .i64 c.N, .int .i64 c.Pi, .int .i64 c.E, .int .i64 c.G, .int .i64 c.F, .slice ca c.P.length cc] 24)).alloc (.cells #[.int .i64 f.K, .int .i64 f.At, .int .i64 f.F, .int .i64 f.To, .slice a f.A.length ac, .slice d f.D.length dc] 27)) w.heap.size 24 (confBox c ca cc) := (Blk.new w _ _).alloc _
  have hF : Blk ((w.alloc (.cells #[.int .i64 c.N, .int .i64 c.Pi, .int .i64 c.E, .int .i64 c.G, .int .i64 c.F, .slice ca c.P.length cc] 24)).alloc (.cells #[.int .i64 f.K, .int .i64 f.At, .int .i64 f.F, .int .i64 f.To, .slice a f.A.length ac, .slice d f.D.length dc] 27)) (w.heap.size + 1) 27 (faBox f a ac d dc) := Blk.newAt _ _ (by simp)
  have HH := Lib.hid (fun W => rHits6_any c ca cc f a ac d dc i j W hc)
  have HX := Lib.hid (show emitL c f r s i j b = if hitsB c f i j = false ∨ f.To ≤ r then b else if r < f.F ∨ f.A = [] then [] else actL c (pickA f.A (17 * r + 5 * s + j)) r s b from rfl)
  cases h2 : hitsB c f i j
  · have HE := Lib.hid (show emitL c f r s i j b = b by rw [HX.out, if_pos (.inl h2)])
    rw [h2] at HH
    clear h2 HX
    go_enter Tryz.func16, Tryz.ntmps16
    go_wp2_with fail
    refine (HH.out _).mono ?_
    rintro e wm ⟨rfl, hb2⟩
    go_wp2
    go_ret
    exact ⟨ret_str HE.out.symm, hB0.trans (hb2.mono hB0.size)⟩
  rw [h2] at HH
  go_enter Tryz.func16, Tryz.ntmps16
  go_wp2_with fail
  refine (HH.out _).mono ?_
  rintro e wm ⟨rfl, hb2⟩
  replace hB0 := hB0.trans (hb2.mono hB0.size)
  replace hF := hF.later hb2
  replace hC := hC.later hb2
  have hQf := hF.at
  unfold faBox at hQf
  clear hb2 HH
  by_cases h1 : f.To ≤ r
  · have HE := Lib.hid (show emitL c f r s i j b = b by rw [HX.out, if_pos (.inr h1)])
    have d1 : decide (f.To ≤ r) = true := by simpa using h1
    clear h1 h2 HX
    go_wp2
    go_ret
    exact ⟨ret_str HE.out.symm, hB0⟩
  have d1 : decide (f.To ≤ r) = false := by simpa using h1
  have HX2 := Lib.hid (show emitL c f r s i j b = if r < f.F ∨ f.A = [] then [] else actL c (pickA f.A (17 * r + 5 * s + j)) r s b by rw [HX.out, if_neg (by simp [h2]; omega)])
  clear h1 h2 HX
  by_cases h3 : r < f.F
  · have HE := Lib.hid (show emitL c f r s i j b = [] by rw [HX2.out, if_pos (.inl h3)])
    have d2 : decide (r < f.F) = true := by simpa using h3
    clear h3 HX2
    go_wp2
    go_ret
    exact ⟨ret_str HE.out.symm, hB0⟩
  have d2 : decide (r < f.F) = false := by simpa using h3
  by_cases h4 : f.A.length = 0
  · have HE := Lib.hid (show emitL c f r s i j b = [] by rw [HX2.out, if_pos (.inr (List.eq_nil_of_length_eq_zero h4))])
    have d3 : ((f.A.length : Int) == 0) = true := by simpa using h4
    clear h3 h4 HX2
    go_wp2
    go_ret
    exact ⟨ret_str HE.out.symm, hB0⟩
  have hne : f.A ≠ [] := by intro h; rw [h] at h4; simp at h4
  have HE := Lib.hid (show emitL c f r s i j b = actL c (pickA f.A (17 * r + 5 * s + j)) r s b by rw [HX2.out, if_neg (by simp [hne]; omega)])
  have d3 : ((f.A.length : Int) == 0) = false := by simpa using h4
  have hAm := hA.later hB0
  obtain ⟨k, hk, hk2⟩ := emod_at f.A (17 * r + 5 * s + j) (by omega)
  have hpk : pickA f.A (17 * r + 5 * s + j) = f.A[k] := by unfold pickA; rw [hk]; simp [hk2]
  have HRs := Lib.hid (fun W => rrest_any (17 * r + 5 * s + j) f.A.length W (by omega) (by omega))
  rw [hk] at HRs
  rw [hpk] at HE
  have hpT : f.A[k].T.length ≤ 1048576 := ht _ (List.getElem_mem hk2)
  obtain ⟨ab, off, rfl, hlt, _, _, _, hpH, hpN, _⟩ := hAm.get k hk2
  have HCl := Lib.hid (fun W (h : RowA W (some ⟨ab, off, none⟩) f.A) => h.cellsAt k hk2)
  generalize f.A[k] = t at *
  clear hk hpk HX2 hne h3 h4
  have hs15 : slotsI c ≤ 15 := by have := hc.n12; have := hc.len; unfold slotsI; omega
  have z1 : IntKind.i64.wrap (17 * r) = 17 * r := wrap_in _ (by omega) (by omega)
  have z2 : IntKind.i64.wrap (5 * s) = 5 * s := wrap_in _ (by omega) (by omega)
  have z3 : IntKind.i64.wrap (17 * r + 5 * s) = 17 * r + 5 * s := wrap_in _ (by omega) (by omega)
  have z4 : IntKind.i64.wrap (17 * r + 5 * s + j) = 17 * r + 5 * s + j := wrap_in _ (by omega) (by omega)
  have k0 : (0 : Int) ≤ (k : Int) := by omega
  have k1 : (k : Int) < (f.A.length : Int) := by omega
  go_upto_region 5 with fail
  refine region_slots [some 39, some 40, some 41, some 42, some 43, some 44, some 45, some 46, some 47, some 48, some 49, some 50, some 51, some 52, some 53, some 15, none] [none, none, none, none, none, none, none, none, none, none, none, none, none, none, none, none, some 15] 105 17 rfl (by kernel_rfl) (by kernel_rfl) rfl rfl ?_
  apply step_fix
  · intro a W Zs hS hFm hz hd
    have h8 := hFm.old 8 rfl
    conv at h8 => rhs; whnf
    replace h8 := ev_get hFm.size h8
    refine .inl ⟨wanted_none rfl _, fun K hK => ?_⟩
    have HK := Lib.hid hK
    clear hd hFm hK
    go_simp
    exact HK.out _ _ rfl (Below.refl _ _)
  simp only [List.nil_append, List.cons_append]
  apply step_fix
  · intro a W Zs hS hFm hz hd
    have h39 := ev_get hFm.size (hd 0 39 rfl rfl)
    have hq := (hF.drew1.later hS).at
    unfold faBox at hq
    refine .inl ⟨wanted_none rfl _, fun K hK => ?_⟩
    have HK := Lib.hid hK
    clear hd hFm hK
    go_simp
    exact HK.out _ _ rfl (Below.refl _ _)
  simp only [List.nil_append, List.cons_append]
  apply step_fix
  · intro a W Zs hS hFm hz hd
    have h2 := hFm.old 2 rfl
    conv at h2 => rhs; whnf
    replace h2 := ev_get hFm.size h2
    refine .inl ⟨wanted_none rfl _, fun K hK => ?_⟩
    have HK := Lib.hid hK
    clear hd hFm hK
    go_simp
    exact HK.out _ _ rfl (Below.refl _ _)
  simp only [List.nil_append, List.cons_append]
  apply step_fix
  · intro a W Zs hS hFm hz hd
    have h41 := ev_get hFm.size (hd 2 41 rfl rfl)
    refine .inl ⟨wanted_none rfl _, fun K hK => ?_⟩
    have HK := Lib.hid hK
    clear hd hFm hK
    go_simp
    exact HK.out _ _ rfl (Below.refl _ _)
  simp only [List.nil_append, List.cons_append]
  apply step_fix
  · intro a W Zs hS hFm hz hd
    have h3 := hFm.old 3 rfl
    conv at h3 => rhs; whnf
    replace h3 := ev_get hFm.size h3
    refine .inl ⟨wanted_none rfl _, fun K hK => ?_⟩
    have HK := Lib.hid hK
    clear hd hFm hK
    go_simp
    exact HK.out _ _ rfl (Below.refl _ _)
  simp only [List.nil_append, List.cons_append]
  apply step_fix
  · intro a W Zs hS hFm hz hd
    have h43 := ev_get hFm.size (hd 4 43 rfl rfl)
    refine .inl ⟨wanted_none rfl _, fun K hK => ?_⟩
    have HK := Lib.hid hK
    clear hd hFm hK
    go_simp
    exact HK.out _ _ rfl (Below.refl _ _)
  simp only [List.nil_append, List.cons_append]
  apply step_fix
  · intro a W Zs hS hFm hz hd
    have h42 := ev_get hFm.size (hd 3 42 rfl rfl)
    have h44 := ev_get hFm.size (hd 5 44 rfl rfl)
    refine .inl ⟨wanted_none rfl _, fun K hK => ?_⟩
    have HK := Lib.hid hK
    clear hd hFm hK
    go_simp
    exact HK.out _ _ rfl (Below.refl _ _)
  simp only [List.nil_append, List.cons_append]
  apply step_fix
  · intro a W Zs hS hFm hz hd
    have h5 := hFm.old 5 rfl
    conv at h5 => rhs; whnf
    replace h5 := ev_get hFm.size h5
    refine .inl ⟨wanted_none rfl _, fun K hK => ?_⟩
    have HK := Lib.hid hK
    clear hd hFm hK
    go_simp
    exact HK.out _ _ rfl (Below.refl _ _)
  simp only [List.nil_append, List.cons_append]
  apply step_fix
  · intro a W Zs hS hFm hz hd
    have h45 := ev_get hFm.size (hd 6 45 rfl rfl)
    have h46 := ev_get hFm.size (hd 7 46 rfl rfl)
    refine .inl ⟨wanted_none rfl _, fun K hK => ?_⟩
    have HK := Lib.hid hK
    clear hd hFm hK
    go_simp
    exact HK.out _ _ rfl (Below.refl _ _)
  simp only [List.nil_append, List.cons_append]
  apply step_fix
  · intro a W Zs hS hFm hz hd
    have h8 := hFm.old 8 rfl
    conv at h8 => rhs; whnf
    replace h8 := ev_get hFm.size h8
    refine .inl ⟨wanted_none rfl _, fun K hK => ?_⟩
    have HK := Lib.hid hK
    clear hd hFm hK
    go_simp
    exact HK.out _ _ rfl (Below.refl _ _)
  simp only [List.nil_append, List.cons_append]
  apply step_fix
  · intro a W Zs hS hFm hz hd
    have h48 := ev_get hFm.size (hd 9 48 rfl rfl)
    have hq := (hF.drew1.later hS).at
    unfold faBox at hq
    refine .inl ⟨wanted_none rfl _, fun K hK => ?_⟩
    have HK := Lib.hid hK
    clear hd hFm hK
    go_simp
    exact HK.out _ _ rfl (Below.refl _ _)
  simp only [List.nil_append, List.cons_append]
  apply step_fix
  · intro a W Zs hS hFm hz hd
    have h49 := ev_get hFm.size (hd 10 49 rfl rfl)
    refine .inl ⟨wanted_none rfl _, fun K hK => ?_⟩
    have HK := Lib.hid hK
    clear hd hFm hK
    go_simp
    exact HK.out _ _ rfl (Below.refl _ _)
  simp only [List.nil_append, List.cons_append]
  apply step_fix
  · intro a W Zs hS hFm hz hd
    have h47 := ev_get hFm.size (hd 8 47 rfl rfl)
    have h50 := ev_get hFm.size (hd 11 50 rfl rfl)
    refine .inl ⟨wanted_none rfl _, fun K hK => ?_⟩
    have HK := Lib.hid hK
    clear hd hFm hK
    go_simp
    refine (HRs.out _).mono ?_
    rintro e W' ⟨rfl, rfl⟩
    exact HK.out _ _ rfl (Below.refl _ _)
  simp only [List.nil_append, List.cons_append]
  apply step_fix
  · intro a W Zs hS hFm hz hd
    have h40 := ev_get hFm.size (hd 1 40 rfl rfl)
    have h51 := ev_get hFm.size (hd 12 51 rfl rfl)
    refine .inl ⟨wanted_none rfl _, fun K hK => ?_⟩
    have HK := Lib.hid hK
    clear hd hFm hK
    go_simp
    exact HK.out _ _ rfl (Below.refl _ _)
  simp only [List.nil_append, List.cons_append]
  apply step_fix
  · intro a W Zs hS hFm hz hd
    have h52 := ev_get hFm.size (hd 13 52 rfl rfl)
    obtain ⟨hq1, hq2, hq3⟩ := HCl.out _ (hAm.drew1.later hS)
    refine .inl ⟨wanted_none rfl _, fun K hK => ?_⟩
    have HK := Lib.hid hK
    clear hd hFm hK
    go_simp
    exact HK.out _ _ rfl (Below.refl _ _)
  simp only [List.nil_append, List.cons_append]
  refine step_of (boxF _ 49 3) (boxF_good _ _ _) ?_ ?_
  · intro a W Zs hS hFm hz hd
    refine .inl ⟨wanted_none rfl _, fun K hK => ?_⟩
    have HK := Lib.hid hK
    clear hd hFm hK
    go_simp
    exact HK.out _ _ ⟨_, _, rfl, rfl, Blk.new _ _ _, .inl ⟨Nat.le_refl _, by simp⟩⟩ (alloc_below _ _)
  simp only [List.nil_append, List.cons_append]
  apply step_lit
  · intro a W Zs hS hFm hz hd hap
    obtain ⟨b15, cs15, e15, n15, q15, z15⟩ := hd 15 15 rfl rfl
    have h15 := ev_get hFm.size e15
    have h53 := ev_get hFm.size (hd 14 53 rfl rfl)
    have hB0 := (hz 15 _ rfl z15).1
    obtain ⟨u0, u1, u2, rfl⟩ := arr3 n15
    have hq := q15.at
    have hfz := q15.frozen
    refine ⟨wanted_none rfl _, b15, z15, fun K hK => ?_⟩
    have HK := Lib.hid hK
    clear hd hFm hK
    go_simp
    exact HK.out undef _ (Only.fill3 _ _ _ _ _) (fun d hd' => by injection hd' with hd'; subst hd'; exact ⟨⟨b15, e15, q15.fill3 _ _ _, .inr (.inl rfl)⟩, ⟨b15, _, e15, rfl, q15.fill3 _ _ _, z15⟩⟩)
  simp only [List.nil_append, List.cons_append]
  intro a w3 Zs hS hFm hz hd
  obtain ⟨b15, e15, q15, f15⟩ := hd 16 15 (by decide) rfl
  obtain ⟨bz, csz, ez, nz, qz, zz⟩ := hd 15 15 (by decide) rfl
  have nb15 := ptr_new ez e15 (hz 15 (by decide) bz zz)
  clear zz qz nz ez
  clear csz bz
  have e0 := hFm.old 0 rfl
  conv at e0 => rhs; whnf
  have e1 := hFm.old 1 rfl
  conv at e1 => rhs; whnf
  have e2 := hFm.old 2 rfl
  conv at e2 => rhs; whnf
  have e3 := hFm.old 3 rfl
  conv at e3 => rhs; whnf
  have e4 := hFm.old 4 rfl
  conv at e4 => rhs; whnf
  have e5 := hFm.old 5 rfl
  conv at e5 => rhs; whnf
  have e6 := hFm.old 6 rfl
  conv at e6 => rhs; whnf
  have e7 := hFm.old 7 rfl
  conv at e7 => rhs; whnf
  have e8 := hFm.old 8 rfl
  conv at e8 => rhs; whnf
  have e9 := hFm.old 9 rfl
  conv at e9 => rhs; whnf
  have e10 := hFm.old 10 rfl
  conv at e10 => rhs; whnf
  have e11 := hFm.old 11 rfl
  conv at e11 => rhs; whnf
  have e12 := hFm.old 12 rfl
  conv at e12 => rhs; whnf
  have e13 := hFm.old 13 rfl
  conv at e13 => rhs; whnf
  have e14 := hFm.old 14 rfl
  conv at e14 => rhs; whnf
  have e16 := hFm.old 16 rfl
  conv at e16 => rhs; whnf
  have e17 := hFm.old 17 rfl
  conv at e17 => rhs; whnf
  have e18 := hFm.old 18 rfl
  conv at e18 => rhs; whnf
  have e19 := hFm.old 19 rfl
  conv at e19 => rhs; whnf
  have e20 := hFm.old 20 rfl
  conv at e20 => rhs; whnf
  have e21 := hFm.old 21 rfl
  conv at e21 => rhs; whnf
  have e22 := hFm.old 22 rfl
  conv at e22 => rhs; whnf
  have e23 := hFm.old 23 rfl
  conv at e23 => rhs; whnf
  have e24 := hFm.old 24 rfl
  conv at e24 => rhs; whnf
  have e25 := hFm.old 25 rfl
  conv at e25 => rhs; whnf
  have e26 := hFm.old 26 rfl
  conv at e26 => rhs; whnf
  have e27 := hFm.old 27 rfl
  conv at e27 => rhs; whnf
  have e28 := hFm.old 28 rfl
  conv at e28 => rhs; whnf
  have e29 := hFm.old 29 rfl
  conv at e29 => rhs; whnf
  have e30 := hFm.old 30 rfl
  conv at e30 => rhs; whnf
  have e31 := hFm.old 31 rfl
  conv at e31 => rhs; whnf
  have e32 := hFm.old 32 rfl
  conv at e32 => rhs; whnf
  have e33 := hFm.old 33 rfl
  conv at e33 => rhs; whnf
  have e34 := hFm.old 34 rfl
  conv at e34 => rhs; whnf
  have e35 := hFm.old 35 rfl
  conv at e35 => rhs; whnf
  have e36 := hFm.old 36 rfl
  conv at e36 => rhs; whnf
  have e37 := hFm.old 37 rfl
  conv at e37 => rhs; whnf
  have e38 := hFm.old 38 rfl
  conv at e38 => rhs; whnf
  have e54 := hFm.old 54 rfl
  conv at e54 => rhs; whnf
  have e55 := hFm.old 55 rfl
  conv at e55 => rhs; whnf
  have e56 := hFm.old 56 rfl
  conv at e56 => rhs; whnf
  have e57 := hFm.old 57 rfl
  conv at e57 => rhs; whnf
  have e58 := hFm.old 58 rfl
  conv at e58 => rhs; whnf
  have e59 := hFm.old 59 rfl
  conv at e59 => rhs; whnf
  have e60 := hFm.old 60 rfl
  conv at e60 => rhs; whnf
  have e61 := hFm.old 61 rfl
  conv at e61 => rhs; whnf
  have e62 := hFm.old 62 rfl
  conv at e62 => rhs; whnf
  have e63 := hFm.old 63 rfl
  conv at e63 => rhs; whnf
  have e64 := hFm.old 64 rfl
  conv at e64 => rhs; whnf
  have e65 := hFm.old 65 rfl
  conv at e65 => rhs; whnf
  have e66 := hFm.old 66 rfl
  conv at e66 => rhs; whnf
  have e67 := hFm.old 67 rfl
  conv at e67 => rhs; whnf
  have e68 := hFm.old 68 rfl
  conv at e68 => rhs; whnf
  have e69 := hFm.old 69 rfl
  conv at e69 => rhs; whnf
  have e70 := hFm.old 70 rfl
  conv at e70 => rhs; whnf
  have e71 := hFm.old 71 rfl
  conv at e71 => rhs; whnf
  have e72 := hFm.old 72 rfl
  conv at e72 => rhs; whnf
  have e73 := hFm.old 73 rfl
  conv at e73 => rhs; whnf
  have e74 := hFm.old 74 rfl
  conv at e74 => rhs; whnf
  have e75 := hFm.old 75 rfl
  conv at e75 => rhs; whnf
  have e76 := hFm.old 76 rfl
  conv at e76 => rhs; whnf
  have e77 := hFm.old 77 rfl
  conv at e77 => rhs; whnf
  have e78 := hFm.old 78 rfl
  conv at e78 => rhs; whnf
  have e79 := hFm.old 79 rfl
  conv at e79 => rhs; whnf
  have e80 := hFm.old 80 rfl
  conv at e80 => rhs; whnf
  have e81 := hFm.old 81 rfl
  conv at e81 => rhs; whnf
  have e82 := hFm.old 82 rfl
  conv at e82 => rhs; whnf
  have e83 := hFm.old 83 rfl
  conv at e83 => rhs; whnf
  have e84 := hFm.old 84 rfl
  conv at e84 => rhs; whnf
  have e85 := hFm.old 85 rfl
  conv at e85 => rhs; whnf
  have e86 := hFm.old 86 rfl
  conv at e86 => rhs; whnf
  have e87 := hFm.old 87 rfl
  conv at e87 => rhs; whnf
  have e88 := hFm.old 88 rfl
  conv at e88 => rhs; whnf
  have e89 := hFm.old 89 rfl
  conv at e89 => rhs; whnf
  have e90 := hFm.old 90 rfl
  conv at e90 => rhs; whnf
  have e91 := hFm.old 91 rfl
  conv at e91 => rhs; whnf
  have e92 := hFm.old 92 rfl
  conv at e92 => rhs; whnf
  have e93 := hFm.old 93 rfl
  conv at e93 => rhs; whnf
  have e94 := hFm.old 94 rfl
  conv at e94 => rhs; whnf
  have e95 := hFm.old 95 rfl
  conv at e95 => rhs; whnf
  have e96 := hFm.old 96 rfl
  conv at e96 => rhs; whnf
  have e97 := hFm.old 97 rfl
  conv at e97 => rhs; whnf
  have e98 := hFm.old 98 rfl
  conv at e98 => rhs; whnf
  have e99 := hFm.old 99 rfl
  conv at e99 => rhs; whnf
  have e100 := hFm.old 100 rfl
  conv at e100 => rhs; whnf
  have e101 := hFm.old 101 rfl
  conv at e101 => rhs; whnf
  have e102 := hFm.old 102 rfl
  conv at e102 => rhs; whnf
  have e103 := hFm.old 103 rfl
  conv at e103 => rhs; whnf
  have e104 := hFm.old 104 rfl
  conv at e104 => rhs; whnf
  have hsz := hFm.size
  have hdf := hFm.defers
  clear hd hFm
  obtain ⟨t, df⟩ := a
  simp only at hsz hdf
  subst hdf
  obtain ⟨x, hx⟩ : ∃ x : Nat → Value, ∀ i, t.getD i undef = x i := ⟨fun i => t.getD i undef, fun _ => rfl⟩
  have h15 := (hx 15).symm.trans e15
  have h0 := (hx 0).symm.trans e0
  have h1 := (hx 1).symm.trans e1
  have h2 := (hx 2).symm.trans e2
  have h3 := (hx 3).symm.trans e3
  have h4 := (hx 4).symm.trans e4
  have h5 := (hx 5).symm.trans e5
  have h6 := (hx 6).symm.trans e6
  have h7 := (hx 7).symm.trans e7
  have h8 := (hx 8).symm.trans e8
  have h9 := (hx 9).symm.trans e9
  have h10 := (hx 10).symm.trans e10
  have h11 := (hx 11).symm.trans e11
  have h12 := (hx 12).symm.trans e12
  have h13 := (hx 13).symm.trans e13
  have h14 := (hx 14).symm.trans e14
  have h16 := (hx 16).symm.trans e16
  have h17 := (hx 17).symm.trans e17
  have h18 := (hx 18).symm.trans e18
  have h19 := (hx 19).symm.trans e19
  have h20 := (hx 20).symm.trans e20
  have h21 := (hx 21).symm.trans e21
  have h22 := (hx 22).symm.trans e22
  have h23 := (hx 23).symm.trans e23
  have h24 := (hx 24).symm.trans e24
  have h25 := (hx 25).symm.trans e25
  have h26 := (hx 26).symm.trans e26
  have h27 := (hx 27).symm.trans e27
  have h28 := (hx 28).symm.trans e28
  have h29 := (hx 29).symm.trans e29
  have h30 := (hx 30).symm.trans e30
  have h31 := (hx 31).symm.trans e31
  have h32 := (hx 32).symm.trans e32
  have h33 := (hx 33).symm.trans e33
  have h34 := (hx 34).symm.trans e34
  have h35 := (hx 35).symm.trans e35
  have h36 := (hx 36).symm.trans e36
  have h37 := (hx 37).symm.trans e37
  have h38 := (hx 38).symm.trans e38
  have h54 := (hx 54).symm.trans e54
  have h55 := (hx 55).symm.trans e55
  have h56 := (hx 56).symm.trans e56
  have h57 := (hx 57).symm.trans e57
  have h58 := (hx 58).symm.trans e58
  have h59 := (hx 59).symm.trans e59
  have h60 := (hx 60).symm.trans e60
  have h61 := (hx 61).symm.trans e61
  have h62 := (hx 62).symm.trans e62
  have h63 := (hx 63).symm.trans e63
  have h64 := (hx 64).symm.trans e64
  have h65 := (hx 65).symm.trans e65
  have h66 := (hx 66).symm.trans e66
  have h67 := (hx 67).symm.trans e67
  have h68 := (hx 68).symm.trans e68
  have h69 := (hx 69).symm.trans e69
  have h70 := (hx 70).symm.trans e70
  have h71 := (hx 71).symm.trans e71
  have h72 := (hx 72).symm.trans e72
  have h73 := (hx 73).symm.trans e73
  have h74 := (hx 74).symm.trans e74
  have h75 := (hx 75).symm.trans e75
  have h76 := (hx 76).symm.trans e76
  have h77 := (hx 77).symm.trans e77
  have h78 := (hx 78).symm.trans e78
  have h79 := (hx 79).symm.trans e79
  have h80 := (hx 80).symm.trans e80
  have h81 := (hx 81).symm.trans e81
  have h82 := (hx 82).symm.trans e82
  have h83 := (hx 83).symm.trans e83
  have h84 := (hx 84).symm.trans e84
  have h85 := (hx 85).symm.trans e85
  have h86 := (hx 86).symm.trans e86
  have h87 := (hx 87).symm.trans e87
  have h88 := (hx 88).symm.trans e88
  have h89 := (hx 89).symm.trans e89
  have h90 := (hx 90).symm.trans e90
  have h91 := (hx 91).symm.trans e91
  have h92 := (hx 92).symm.trans e92
  have h93 := (hx 93).symm.trans e93
  have h94 := (hx 94).symm.trans e94
  have h95 := (hx 95).symm.trans e95
  have h96 := (hx 96).symm.trans e96
  have h97 := (hx 97).symm.trans e97
  have h98 := (hx 98).symm.trans e98
  have h99 := (hx 99).symm.trans e99
  have h100 := (hx 100).symm.trans e100
  have h101 := (hx 101).symm.trans e101
  have h102 := (hx 102).symm.trans e102
  have h103 := (hx 103).symm.trans e103
  have h104 := (hx 104).symm.trans e104
  have ht' : t = #[x 0, x 1, x 2, x 3, x 4, x 5, x 6, x 7, x 8, x 9, x 10, x 11, x 12, x 13, x 14, x 15, x 16, x 17, x 18, x 19, x 20, x 21, x 22, x 23, x 24, x 25, x 26, x 27, x 28, x 29, x 30, x 31, x 32, x 33, x 34, x 35, x 36, x 37, x 38, x 39, x 40, x 41, x 42, x 43, x 44, x 45, x 46, x 47, x 48, x 49, x 50, x 51, x 52, x 53, x 54, x 55, x 56, x 57, x 58, x 59, x 60, x 61, x 62, x 63, x 64, x 65, x 66, x 67, x 68, x 69, x 70, x 71, x 72, x 73, x 74, x 75, x 76, x 77, x 78, x 79, x 80, x 81, x 82, x 83, x 84, x 85, x 86, x 87, x 88, x 89, x 90, x 91, x 92, x 93, x 94, x 95, x 96, x 97, x 98, x 99, x 100, x 101, x 102, x 103, x 104] := frame_lit t 105 hsz x hx
  clear hx hsz hz e15 e0 e1 e2 e3 e4 e5 e6 e7 e8 e9 e10 e11 e12 e13 e14 e16 e17 e18 e19 e20 e21 e22 e23 e24 e25 e26 e27 e28 e29 e30 e31 e32 e33 e34 e35 e36 e37 e38 e54 e55 e56 e57 e58 e59 e60 e61 e62 e63 e64 e65 e66 e67 e68 e69 e70 e71 e72 e73 e74 e75 e76 e77 e78 e79 e80 e81 e82 e83 e84 e85 e86 e87 e88 e89 e90 e91 e92 e93 e94 e95 e96 e97 e98 e99 e100 e101 e102 e103 e104
  subst ht'
  dsimp only
  rw [h15, h0, h1, h2, h3, h4, h5, h6, h7, h8, h9, h10, h11, h12, h13, h14, h16, h17, h18, h19, h20, h21, h22, h23, h24, h25, h26, h27, h28, h29, h30, h31, h32, h33, h34, h35, h36, h37, h38, h54, h55, h56, h57, h58, h59, h60, h61, h62, h63, h64, h65, h66, h67, h68, h69, h70, h71, h72, h73, h74, h75, h76, h77, h78, h79, h80, h81, h82, h83, h84, h85, h86, h87, h88, h89, h90, h91, h92, h93, h94, h95, h96, h97, h98, h99, h100, h101, h102, h103, h104]
  clear h15 h0 h1 h2 h3 h4 h5 h6 h7 h8 h9 h10 h11 h12 h13 h14 h16 h17 h18 h19 h20 h21 h22 h23 h24 h25 h26 h27 h28 h29 h30 h31 h32 h33 h34 h35 h36 h37 h38 h54 h55 h56 h57 h58 h59 h60 h61 h62 h63 h64 h65 h66 h67 h68 h69 h70 h71 h72 h73 h74 h75 h76 h77 h78 h79 h80 h81 h82 h83 h84 h85 h86 h87 h88 h89 h90 h91 h92 h93 h94 h95 h96 h97 h98 h99 h100 h101 h102 h103 h104
  have hb1 := from_drew hS
  replace hB0 := hB0.trans (hb1.mono hB0.size)
  replace hC := hC.later hb1
  have kA : Blk w3 b15 49 (acBox t) := q15
  clear hS hb1 hAm hF hA HCl hQf HRs q15 f15 nb15
  have qA := kA.at
  unfold acBox at qA
  have hm0 := Int.emod_nonneg t.H (show (7 : Int) ≠ 0 by omega)
  have hm7 := Int.emod_lt_of_pos t.H (show (0 : Int) < 7 by omega)
  have HR := Lib.hid (fun W => rrest_any t.H 7 W (by omega) (by omega))
  have HX := Lib.hid (show actL c t r s b = if t.H % 7 = 1 then b else if t.H % 7 = 2 then b.take (t.N % ((b.length : Int) + 1)).toNat else if t.H % 7 = 3 then clean t.T else if t.H % 7 = 4 then turnedL b t.N
    else if t.H % 7 = 5 then textF (payF (dataF c r s b) t.N) else if t.H % 7 = 6 then textF (echF (dataF c r s b) t.N) else [] from rfl)
  rcases (by omega : t.H % 7 = 0 ∨ t.H % 7 = 1 ∨ t.H % 7 = 2 ∨ t.H % 7 = 3 ∨ t.H % 7 = 4 ∨ t.H % 7 = 5 ∨ t.H % 7 = 6) with h | h | h | h | h | h | h
  · rw [h] at HR HX
    replace HE := Lib.hid (show emitL c f r s i j b = [] by rw [HE.out, HX.out]; rfl)
    clear h hm0 hm7 HX
    go_wp2_with fail
    refine (HR.out _).mono ?_
    rintro e wl ⟨rfl, rfl⟩
    go_wp2
    go_ret
    exact ⟨ret_str HE.out.symm, hB0⟩
  · rw [h] at HR HX
    replace HE := Lib.hid (show emitL c f r s i j b = b by rw [HE.out, HX.out]; rfl)
    clear h hm0 hm7 HX
    go_wp2_with fail
    refine (HR.out _).mono ?_
    rintro e wl ⟨rfl, rfl⟩
    go_wp2
    go_ret
    exact ⟨ret_str HE.out.symm, hB0⟩
  · rw [h] at HR HX
    have hp0 := Int.emod_nonneg t.N (show (b.length : Int) + 1 ≠ 0 by omega)
    have hp1 := Int.emod_lt_of_pos t.N (show (0 : Int) < (b.length : Int) + 1 by omega)
    have HP := Lib.hid (fun W => rrest_any t.N ((b.length : Int) + 1) W (by omega) (by omega))
    replace HE := Lib.hid (show emitL c f r s i j b = b.take (t.N % ((b.length : Int) + 1)).toNat by rw [HE.out, HX.out]; rfl)
    obtain ⟨q, hq⟩ : ∃ q : Nat, t.N % ((b.length : Int) + 1) = q := ⟨(t.N % ((b.length : Int) + 1)).toNat, by omega⟩
    rw [hq] at HP HE hp1
    have hqb : q ≤ b.length := by omega
    have hqb2 : (q : Int) ≤ (b.length : Int) := by omega
    have hq0 : (0 : Int) ≤ (q : Int) := by omega
    have zl : IntKind.i64.wrap ((b.length : Int) + 1) = (b.length : Int) + 1 := wrap_in _ (by omega) (by omega)
    clear h hm0 hm7 HX hq hp0 hp1
    go_wp2_with fail
    refine (HR.out _).mono ?_
    rintro e wl ⟨rfl, rfl⟩
    go_wp2_with fail
    refine (HP.out _).mono ?_
    rintro e wl ⟨rfl, rfl⟩
    go_wp2
    go_ret
    exact ⟨ret_str (by rw [HE.out]; simp), hB0⟩
  · rw [h] at HR HX
    replace HE := Lib.hid (show emitL c f r s i j b = clean t.T by rw [HE.out, HX.out]; rfl)
    clear h hm0 hm7 HX
    go_wp2_with fail
    refine (HR.out _).mono ?_
    rintro e wl ⟨rfl, rfl⟩
    go_wp2_with fail
    refine (rclean_any t.T _ (by omega)).mono ?_
    rintro e wl ⟨rfl, rfl⟩
    go_wp2
    go_ret
    exact ⟨ret_str HE.out.symm, hB0⟩
  · rw [h] at HR HX
    replace HE := Lib.hid (show emitL c f r s i j b = turnedL b t.N by rw [HE.out, HX.out]; rfl)
    clear h hm0 hm7 HX
    by_cases h0 : b = []
    · have HF := Lib.hid (show turnedL b t.N = [] by unfold turnedL; rw [if_pos h0])
      have d4 : (b == []) = true := by simpa using h0
      have d5 : (!(b == [])) = false := by rw [d4]; rfl
      have d6 : (b != []) = false := d5
      clear h0
      go_wp2_with fail
      refine (HR.out _).mono ?_
      rintro e wl ⟨rfl, rfl⟩
      go_wp2
      go_ret
      exact ⟨ret_str (by rw [HE.out, HF.out]), hB0⟩
    · have HF := Lib.hid (show turnedL b t.N = clean (turn b (t.N % (b.length : Int))) by unfold turnedL; rw [if_neg h0])
      have d4 : (b == []) = false := by simpa using h0
      have d5 : (!(b == [])) = true := by rw [d4]; rfl
      have d6 : (b != []) = true := d5
      have hpos : 0 < b.length := List.length_pos_iff.2 h0
      have HP := Lib.hid (fun W => rrest_any t.N b.length W (by omega) (by omega))
      have hlt := turn_length b (t.N % (b.length : Int))
      have HT := Lib.hid (fun W => rturn_any b (t.N % (b.length : Int)) W (by omega))
      have HC2 := Lib.hid (fun W => rclean_any (turn b (t.N % (b.length : Int))) W (by omega))
      clear h0 hlt
      generalize t.N % (b.length : Int) = q at *
      go_wp2_with fail
      refine (HR.out _).mono ?_
      rintro e wl ⟨rfl, rfl⟩
      go_wp2_with fail
      refine (HP.out _).mono ?_
      rintro e wl ⟨rfl, rfl⟩
      go_wp2_with fail
      refine (HT.out _).mono ?_
      rintro e w4 ⟨rfl, hb1⟩
      go_wp2_with fail
      refine (HC2.out _).mono ?_
      rintro e wl ⟨rfl, rfl⟩
      go_wp2
      go_ret
      exact ⟨ret_str (by rw [HE.out, HF.out]), hB0.trans (hb1.mono hB0.size)⟩
  · rw [h] at HR HX
    replace HE := Lib.hid (show emitL c f r s i j b = textF (forgeF (dataF c r s b) t.N false) by rw [HE.out, HX.out]; rfl)
    have HG := Lib.hid (fun W => rforged_any c ca cc r s b t.N false W hc r0 (by omega) s0 s1 hb)
    clear h hm0 hm7 HX
    generalize textF (forgeF (dataF c r s b) t.N false) = tx at *
    have hQc := hC.at
    unfold confBox at hQc
    go_wp2_with fail
    refine (HR.out _).mono ?_
    rintro e wl ⟨rfl, rfl⟩
    go_wp2_with fail
    refine (HG.out _).mono ?_
    rintro e w4 ⟨rfl, hb1⟩
    go_wp2
    go_ret
    exact ⟨ret_str HE.out.symm, hB0.trans (hb1.mono hB0.size)⟩
  · rw [h] at HR HX
    replace HE := Lib.hid (show emitL c f r s i j b = textF (forgeF (dataF c r s b) t.N true) by rw [HE.out, HX.out]; rfl)
    have HG := Lib.hid (fun W => rforged_any c ca cc r s b t.N true W hc r0 (by omega) s0 s1 hb)
    clear h hm0 hm7 HX
    generalize textF (forgeF (dataF c r s b) t.N true) = tx at *
    have hQc := hC.at
    unfold confBox at hQc
    go_wp2_with fail
    refine (HR.out _).mono ?_
    rintro e wl ⟨rfl, rfl⟩
    go_wp2_with fail
    refine (HG.out _).mono ?_
    rintro e w4 ⟨rfl, hb1⟩
    go_wp2
    go_ret
    exact ⟨ret_str HE.out.symm, hB0.trans (hb1.mono hB0.size)⟩

end Go.Proofs.YtbghpkdkfbpmeaaGreat

/-
  FaultOnly's walk.
-/
import Derived.Test.YtbghpkdkfbpmeaaK15
import Derived.Test.YtbghpkdkfbpmeaaK3
import Derived.Test.YtbghpkdkfbpmeaaK13
namespace Go.Proofs.Ytbghpkdkfbpmeaa
open Go.RowKit Plait
set_option maxRecDepth 100000
set_option linter.unusedVariables false
set_option linter.unusedSimpArgs false

set_option maxHeartbeats 6400000 in
theorem faultOnly_walk (c : Cf) (a : Option Addr) (cap : Nat) (f : Fa) (fa : Option Addr) (fc : Nat) (fe : Option Addr) (fec : Nat) (round slot frm step : Int) (na : Option Addr) (ns : List Int) (nc : Nat) (w : World) (hrow : Row w a c.P) (iN : inI c.N) (iP : inI c.Pi) (iE : inI c.E) (iG : inI c.G) (iF : inI c.F)
    (hA : RowA w fa f.A) (hE : Row w fe f.D) (jK : inI f.K) (jA : inI f.At) (jF : inI f.F) (jT : inI f.To)
    (r1 : -9223372036854775808 ≤ round) (r2 : round ≤ 9223372036854775807) (o1 : -9223372036854775808 ≤ slot) (o2 : slot ≤ 9223372036854775807) (n1 : -9223372036854775808 ≤ frm) (n2 : frm ≤ 9223372036854775807) (v1 : -9223372036854775808 ≤ step) (v2 : step ≤ 9223372036854775807) (hns : Row w na ns) :
    Calls Try.prog 5 #[.agg #[.int .i64 c.N, .int .i64 c.Pi, .int .i64 c.E, .int .i64 c.G, .int .i64 c.F, .slice a c.P.length cap], .agg #[.int .i64 f.K, .int .i64 f.At, .int .i64 f.F, .int .i64 f.To, .slice fa f.A.length fc, .slice fe f.D.length fec], .int .i64 round, .int .i64 slot, .int .i64 frm, .int .i64 step, .slice na ns.length nc] w fun e w' => e = .returned (.bool true) ∧ Below w.heap.size w w' := by
  have hB : Below w.heap.size w ((w.alloc (.cells #[.int .i64 c.N, .int .i64 c.Pi, .int .i64 c.E, .int .i64 c.G, .int .i64 c.F, .slice a c.P.length cap] 24)).alloc (.cells #[.int .i64 f.K, .int .i64 f.At, .int .i64 f.F, .int .i64 f.To, .slice fa f.A.length fc, .slice fe f.D.length fec] 27)) := (alloc_below w _).alloc (by simp) _
  have k_c : Blk ((w.alloc (.cells #[.int .i64 c.N, .int .i64 c.Pi, .int .i64 c.E, .int .i64 c.G, .int .i64 c.F, .slice a c.P.length cap] 24)).alloc (.cells #[.int .i64 f.K, .int .i64 f.At, .int .i64 f.F, .int .i64 f.To, .slice fa f.A.length fc, .slice fe f.D.length fec] 27)) w.heap.size 24 (confBox c a cap) := (Blk.newAt _ _ rfl).alloc _
  have k_f : Blk ((w.alloc (.cells #[.int .i64 c.N, .int .i64 c.Pi, .int .i64 c.E, .int .i64 c.G, .int .i64 c.F, .slice a c.P.length cap] 24)).alloc (.cells #[.int .i64 f.K, .int .i64 f.At, .int .i64 f.F, .int .i64 f.To, .slice fa f.A.length fc, .slice fe f.D.length fec] 27)) (w.heap.size + 1) 27 (faBox f fa fc fe fec) := Blk.newAt _ _ (by simp)
  go_enter Try.func5, Try.ntmps5
  go_wp2_with fail
  refine (known6_any _).mono ?_
  rintro e wn ⟨rfl, hb⟩
  replace hB := hB.trans (hb.mono hB.size)
  replace k_c := k_c.later hb
  replace k_f := k_f.later hb
  clear hb
  have qC := k_c.at
  unfold confBox at qC
  have qF := k_f.at
  unfold faBox at qF
  have HFew := Lib.hid (fun W (h : RowA W fa f.A) => few6_any f fa fc fe fec W h hE.1)
  cases hfw : fewL f
  · rw [hfw] at HFew
    go_wp2_with fail
    refine (HFew.out _ (hA.later hB)).mono ?_
    rintro e wk ⟨rfl, hb⟩
    go_wp2
    go_ret
    exact ⟨rfl, hB.trans (hb.mono hB.size)⟩
  rw [hfw] at HFew
  clear hfw
  go_wp2_with fail
  refine (HFew.out _ (hA.later hB)).mono ?_
  rintro e wk ⟨rfl, hb⟩
  replace hB := hB.trans (hb.mono hB.size)
  replace k_c := k_c.later hb
  replace k_f := k_f.later hb
  clear hb qC qF HFew
  have qC := k_c.at
  unfold confBox at qC
  go_wp2_with fail
  refine (make_any2 c a cap _ (hrow.later hB)).mono ?_
  rintro e wm ⟨da, dc, rfl, hrd, hfd, hcp, hb⟩
  replace hB := hB.trans (hb.mono hB.size)
  replace k_f := k_f.later hb
  clear hb qC k_c hfd hcp hrd
  have hok := makeC_ok c
  generalize makeC c = d at *
  have hD : Blk (wm.alloc (.cells #[.int .i64 d.N, .int .i64 d.Pi, .int .i64 d.E, .int .i64 d.G, .int .i64 d.F, .slice da d.P.length dc] 24)) wm.heap.size 24 (confBox d da dc) := Blk.new wm _ _
  replace hB := hB.alloc hB.size (.cells #[.int .i64 d.N, .int .i64 d.Pi, .int .i64 d.E, .int .i64 d.G, .int .i64 d.F, .slice da d.P.length dc] 24)
  replace k_f := k_f.alloc (.cells #[.int .i64 d.N, .int .i64 d.Pi, .int .i64 d.E, .int .i64 d.G, .int .i64 d.F, .slice da d.P.length dc] 24)
  go_upto_region 6 with fail
  generalize wm.alloc (.cells #[.int .i64 d.N, .int .i64 d.Pi, .int .i64 d.E, .int .i64 d.G, .int .i64 d.F, .slice da d.P.length dc] 24) = wn at *
  generalize wm.heap.size = db at *
  have qD := hD.at
  unfold confBox at qD
  have qF := k_f.at
  unfold faBox at qF
  go_wp2_with fail
  refine (make6_any d da dc f fa fc fe fec _ hok (hA.later hB) (hE.later hB)).mono ?_
  rintro e wm ⟨ga, gc, ge, gec, rfl, hRA, hRD, hga, hge, hb⟩
  replace hB := hB.trans (hb.mono hB.size)
  replace hD := hD.later hb
  replace k_f := k_f.later hb
  clear hb qD qF hga hge
  have hsm := makeL_small d f hok
  clear k_f
  generalize makeL d f = g at *
  have hG : Blk (wm.alloc (.cells #[.int .i64 g.K, .int .i64 g.At, .int .i64 g.F, .int .i64 g.To, .slice ga g.A.length gc, .slice ge g.D.length gec] 27)) wm.heap.size 27 (faBox g ga gc ge gec) := Blk.new wm _ _
  replace hB := hB.alloc hB.size (.cells #[.int .i64 g.K, .int .i64 g.At, .int .i64 g.F, .int .i64 g.To, .slice ga g.A.length gc, .slice ge g.D.length gec] 27)
  replace hD := hD.alloc (.cells #[.int .i64 g.K, .int .i64 g.At, .int .i64 g.F, .int .i64 g.To, .slice ga g.A.length gc, .slice ge g.D.length gec] 27)
  replace hRA := hRA.alloc (.cells #[.int .i64 g.K, .int .i64 g.At, .int .i64 g.F, .int .i64 g.To, .slice ga g.A.length gc, .slice ge g.D.length gec] 27)
  replace hRD := hRD.alloc (.cells #[.int .i64 g.K, .int .i64 g.At, .int .i64 g.F, .int .i64 g.To, .slice ga g.A.length gc, .slice ge g.D.length gec] 27)
  go_upto_region 7 with fail
  generalize wm.alloc (.cells #[.int .i64 g.K, .int .i64 g.At, .int .i64 g.F, .int .i64 g.To, .slice ga g.A.length gc, .slice ge g.D.length gec] 27) = wn at *
  generalize wm.heap.size = gb at *
  have n6 := hok.n6
  have n12 := hok.n12
  have qD := hD.at
  unfold confBox at qD
  have qG := hG.at
  unfold faBox at qG
  have HW1 := Lib.hid (fun W => within6_any frm d.N W (by omega) (by omega))
  have HW2 := Lib.hid (fun W => within6_any step 4 W (by omega) (by omega))
  have HW3 := Lib.hid (fun W => within6_any round 130 W (by omega) (by omega))
  have HW4 := Lib.hid (fun W => within6_any slot d.N W (by omega) (by omega))
  have i0 := Int.emod_nonneg frm (show d.N ≠ 0 by omega)
  have i1 := Int.emod_lt_of_pos frm (show 0 < d.N by omega)
  have s0 := Int.emod_nonneg slot (show d.N ≠ 0 by omega)
  have s1 := Int.emod_lt_of_pos slot (show 0 < d.N by omega)
  have r0 : 0 ≤ round % 130 := by omega
  have r9 : round % 130 < 130 := by omega
  obtain ⟨k, hk, hkm⟩ : ∃ k : Nat, step % 4 = (k : Int) ∧ k < 4 := ⟨(step % 4).toNat, by omega, by omega⟩
  rw [hk] at HW2
  clear hk
  generalize frm % d.N = i at *
  generalize slot % d.N = sl at *
  generalize round % 130 = r at *
  have hlk := steps_any d.N i k n6 n12 i0 i1 hkm
  obtain ⟨v, hv, hvk, v0, v9⟩ := step_cell k hkm
  rw [hvk] at hlk
  clear hvk
  have k0 : (0 : Int) ≤ (k : Int) := by omega
  have k1 : (k : Int) < 4 := by omega
  have HAt := Lib.hid (fun W => rAt_any d.N i v W (by omega) (by omega) (by omega) (by omega) (by omega) (by omega))
  have j0 := Int.emod_nonneg (i + v) (show d.N ≠ 0 by omega)
  have j1 := Int.emod_lt_of_pos (i + v) (show 0 < d.N by omega)
  generalize (i + v) % d.N = j at *
  have HT := Lib.hid (fun W (h : Row W na ns) => text_any na ns nc W h)
  have htl : (textL ns).length ≤ 80 := by unfold textL; simp; omega
  have HCl := Lib.hid (fun W => rclean_any (textL ns) W (by omega))
  have hcl : (clean (textL ns)).length ≤ 80 := Nat.le_trans (by unfold clean; simp; omega) htl
  generalize textL ns = tl at *
  generalize clean tl = base at *
  have HL := Lib.hid (fun W => rLink_any d.N i j W n6 n12)
  have hpl : linkI d.N i j = ((linkI d.N i j).1, true) := by rw [← hlk]
  have HH := Lib.hid (hits_law d g i j _ hpl)
  rw [hlk] at HL
  clear hpl hlk
  have hsl : sl < slotsI d := by unfold slotsI; omega
  have hlA := hsm.lA
  have HEm := Lib.hid (fun W (h : RowA W ga g.A) => lEmit_any d da dc g ga gc ge gec r sl i j base W hok h (by omega) (fun t ht => Nat.le_trans (hsm.texts t ht) (by omega)) r0 (by omega) s0 hsl ⟨by omega, by omega⟩ j0 (by omega) (by omega))
  have E1 := Lib.hid (show hitsB d g i j = false ∨ g.To ≤ r → emitL d g r sl i j base = base from fun h => by unfold emitL; rw [if_pos h])
  have E2 := Lib.hid (show ¬ (hitsB d g i j = false ∨ g.To ≤ r) → r < g.F → emitL d g r sl i j base = [] from fun h h2 => by unfold emitL; rw [if_neg h, if_pos (.inl h2)])
  generalize (linkI d.N i j).1 = m at *
  generalize emitL d g r sl i j base = S at *
  go_wp2_with fail
  refine (HW1.out _).mono ?_
  rintro e wl ⟨rfl, rfl⟩
  go_upto_region 8 with fail
  refine region_slots [some 39, some 40, some 41, some 42, some 43, some 44, some 45, some 46, some 47, some 18] [none, none, none, none, none, none, none, none, none, none] 111 10 rfl (by kernel_rfl) (by kernel_rfl) rfl rfl ?_
  apply step_fix
  · intro a W Zs hS hFm hz hd
    have h15 := hFm.old 15 rfl
    conv at h15 => rhs; whnf
    replace h15 := ev_get hFm.size h15
    refine .inl ⟨wanted_none rfl _, fun K hK => ?_⟩
    have HK := Lib.hid hK
    clear hd hFm hK
    go_simp
    exact HK.out _ _ rfl (Below.refl _ _)
  simp only [List.nil_append, List.cons_append]
  apply step_fix
  · intro a W Zs hS hFm hz hd
    have h39 := ev_get hFm.size (hd 0 39 rfl rfl)
    have hq := (hD.drew1.later hS).at
    unfold confBox at hq
    refine .inl ⟨wanted_none rfl _, fun K hK => ?_⟩
    have HK := Lib.hid hK
    clear hd hFm hK
    go_simp
    exact HK.out _ _ rfl (Below.refl _ _)
  simp only [List.nil_append, List.cons_append]
  apply step_fix
  · intro a W Zs hS hFm hz hd
    have h17 := hFm.old 17 rfl
    conv at h17 => rhs; whnf
    replace h17 := ev_get hFm.size h17
    refine .inl ⟨wanted_none rfl _, fun K hK => ?_⟩
    have HK := Lib.hid hK
    clear hd hFm hK
    go_simp
    exact HK.out _ _ rfl (Below.refl _ _)
  simp only [List.nil_append, List.cons_append]
  apply step_blk
  · intro a W Zs hS hFm hz hd
    refine .inl ⟨wanted_none rfl _, fun K hK => ?_⟩
    have HK := Lib.hid hK
    clear hd hFm hK
    go_simp
    exact HK.out _ _ ⟨_, rfl, Blk.new _ _ _, .inr (.inl ⟨Nat.le_refl _, by simp⟩)⟩ (alloc_below _ _)
  simp only [List.nil_append, List.cons_append]
  apply step_fix
  · intro a W Zs hS hFm hz hd
    have h5 := hFm.old 5 rfl
    conv at h5 => rhs; whnf
    replace h5 := ev_get hFm.size h5
    refine .inl ⟨wanted_none rfl _, fun K hK => ?_⟩
    have HK := Lib.hid hK
    clear hd hFm hK
    go_simp
    exact HK.out _ _ rfl (Below.refl _ _)
  simp only [List.nil_append, List.cons_append]
  apply step_fix
  · intro a W Zs hS hFm hz hd
    have h43 := ev_get hFm.size (hd 4 43 rfl rfl)
    refine .inl ⟨wanted_none rfl _, fun K hK => ?_⟩
    have HK := Lib.hid hK
    clear hd hFm hK
    go_simp
    refine (HW2.out _).mono ?_
    rintro e W' ⟨rfl, rfl⟩
    exact HK.out _ _ rfl (Below.refl _ _)
  simp only [List.nil_append, List.cons_append]
  apply step_ptr
  · intro a W Zs hS hFm hz hd
    obtain ⟨b42, e42, q42, f42⟩ := hd 3 42 rfl rfl
    have h42 := ev_get hFm.size e42
    have h44 := ev_get hFm.size (hd 5 44 rfl rfl)
    refine .inl ⟨wanted_none rfl _, fun K hK => ?_⟩
    have HK := Lib.hid hK
    clear hd hFm hK
    go_simp
    exact HK.out _ _ ⟨b42, rfl, q42, f42.imp id (foot_dep 3 rfl rfl rfl _)⟩ (Below.refl _ _)
  simp only [List.nil_append, List.cons_append]
  apply step_fix
  · intro a W Zs hS hFm hz hd
    obtain ⟨b45, e45, q45, f45⟩ := hd 6 45 rfl rfl
    have h45 := ev_get hFm.size e45
    have hq2 := (q45.at k).trans hv
    refine .inl ⟨wanted_none rfl _, fun K hK => ?_⟩
    have HK := Lib.hid hK
    clear hd hFm hK
    go_simp
    exact HK.out _ _ rfl (Below.refl _ _)
  simp only [List.nil_append, List.cons_append]
  apply step_fix
  · intro a W Zs hS hFm hz hd
    have h40 := ev_get hFm.size (hd 1 40 rfl rfl)
    have h41 := ev_get hFm.size (hd 2 41 rfl rfl)
    have h46 := ev_get hFm.size (hd 7 46 rfl rfl)
    refine .inl ⟨wanted_none rfl _, fun K hK => ?_⟩
    have HK := Lib.hid hK
    clear hd hFm hK
    go_simp
    refine (HAt.out _).mono ?_
    rintro e W' ⟨rfl, rfl⟩
    exact HK.out _ _ rfl (Below.refl _ _)
  simp only [List.nil_append, List.cons_append]
  apply step_fix
  · intro a W Zs hS hFm hz hd
    have h47 := ev_get hFm.size (hd 8 47 rfl rfl)
    refine .inl ⟨wanted_none rfl _, fun K hK => ?_⟩
    have HK := Lib.hid hK
    clear hd hFm hK
    go_simp
    exact HK.out _ _ rfl (Below.refl _ _)
  simp only [List.nil_append, List.cons_append]
  intro a w3 Zs hS hFm hz hd
  have e18 := hd 9 18 (by decide) rfl
  have e0 := hFm.old 0 rfl
  conv at e0 => rhs; whnf
  have e1 := hFm.old 1 rfl
  conv at e1 => rhs; whnf
  have e2 := hFm.old 2 rfl
  conv at e2 => rhs; whnf
  have e3 := hFm.old 3 rfl
  conv at e3 => rhs; whnf
  have e4 := hFm.old 4 rfl
  conv at e4 => rhs; whnf
  have e5 := hFm.old 5 rfl
  conv at e5 => rhs; whnf
  have e6 := hFm.old 6 rfl
  conv at e6 => rhs; whnf
  have e7 := hFm.old 7 rfl
  conv at e7 => rhs; whnf
  have e8 := hFm.old 8 rfl
  conv at e8 => rhs; whnf
  have e9 := hFm.old 9 rfl
  conv at e9 => rhs; whnf
  have e10 := hFm.old 10 rfl
  conv at e10 => rhs; whnf
  have e11 := hFm.old 11 rfl
  conv at e11 => rhs; whnf
  have e12 := hFm.old 12 rfl
  conv at e12 => rhs; whnf
  have e13 := hFm.old 13 rfl
  conv at e13 => rhs; whnf
  have e14 := hFm.old 14 rfl
  conv at e14 => rhs; whnf
  have e15 := hFm.old 15 rfl
  conv at e15 => rhs; whnf
  have e16 := hFm.old 16 rfl
  conv at e16 => rhs; whnf
  have e17 := hFm.old 17 rfl
  conv at e17 => rhs; whnf
  have e19 := hFm.old 19 rfl
  conv at e19 => rhs; whnf
  have e20 := hFm.old 20 rfl
  conv at e20 => rhs; whnf
  have e21 := hFm.old 21 rfl
  conv at e21 => rhs; whnf
  have e22 := hFm.old 22 rfl
  conv at e22 => rhs; whnf
  have e23 := hFm.old 23 rfl
  conv at e23 => rhs; whnf
  have e24 := hFm.old 24 rfl
  conv at e24 => rhs; whnf
  have e25 := hFm.old 25 rfl
  conv at e25 => rhs; whnf
  have e26 := hFm.old 26 rfl
  conv at e26 => rhs; whnf
  have e27 := hFm.old 27 rfl
  conv at e27 => rhs; whnf
  have e28 := hFm.old 28 rfl
  conv at e28 => rhs; whnf
  have e29 := hFm.old 29 rfl
  conv at e29 => rhs; whnf
  have e30 := hFm.old 30 rfl
  conv at e30 => rhs; whnf
  have e31 := hFm.old 31 rfl
  conv at e31 => rhs; whnf
  have e32 := hFm.old 32 rfl
  conv at e32 => rhs; whnf
  have e33 := hFm.old 33 rfl
  conv at e33 => rhs; whnf
  have e34 := hFm.old 34 rfl
  conv at e34 => rhs; whnf
  have e35 := hFm.old 35 rfl
  conv at e35 => rhs; whnf
  have e36 := hFm.old 36 rfl
  conv at e36 => rhs; whnf
  have e37 := hFm.old 37 rfl
  conv at e37 => rhs; whnf
  have e38 := hFm.old 38 rfl
  conv at e38 => rhs; whnf
  have e48 := hFm.old 48 rfl
  conv at e48 => rhs; whnf
  have e49 := hFm.old 49 rfl
  conv at e49 => rhs; whnf
  have e50 := hFm.old 50 rfl
  conv at e50 => rhs; whnf
  have e51 := hFm.old 51 rfl
  conv at e51 => rhs; whnf
  have e52 := hFm.old 52 rfl
  conv at e52 => rhs; whnf
  have e53 := hFm.old 53 rfl
  conv at e53 => rhs; whnf
  have e54 := hFm.old 54 rfl
  conv at e54 => rhs; whnf
  have e55 := hFm.old 55 rfl
  conv at e55 => rhs; whnf
  have e56 := hFm.old 56 rfl
  conv at e56 => rhs; whnf
  have e57 := hFm.old 57 rfl
  conv at e57 => rhs; whnf
  have e58 := hFm.old 58 rfl
  conv at e58 => rhs; whnf
  have e59 := hFm.old 59 rfl
  conv at e59 => rhs; whnf
  have e60 := hFm.old 60 rfl
  conv at e60 => rhs; whnf
  have e61 := hFm.old 61 rfl
  conv at e61 => rhs; whnf
  have e62 := hFm.old 62 rfl
  conv at e62 => rhs; whnf
  have e63 := hFm.old 63 rfl
  conv at e63 => rhs; whnf
  have e64 := hFm.old 64 rfl
  conv at e64 => rhs; whnf
  have e65 := hFm.old 65 rfl
  conv at e65 => rhs; whnf
  have e66 := hFm.old 66 rfl
  conv at e66 => rhs; whnf
  have e67 := hFm.old 67 rfl
  conv at e67 => rhs; whnf
  have e68 := hFm.old 68 rfl
  conv at e68 => rhs; whnf
  have e69 := hFm.old 69 rfl
  conv at e69 => rhs; whnf
  have e70 := hFm.old 70 rfl
  conv at e70 => rhs; whnf
  have e71 := hFm.old 71 rfl
  conv at e71 => rhs; whnf
  have e72 := hFm.old 72 rfl
  conv at e72 => rhs; whnf
  have e73 := hFm.old 73 rfl
  conv at e73 => rhs; whnf
  have e74 := hFm.old 74 rfl
  conv at e74 => rhs; whnf
  have e75 := hFm.old 75 rfl
  conv at e75 => rhs; whnf
  have e76 := hFm.old 76 rfl
  conv at e76 => rhs; whnf
  have e77 := hFm.old 77 rfl
  conv at e77 => rhs; whnf
  have e78 := hFm.old 78 rfl
  conv at e78 => rhs; whnf
  have e79 := hFm.old 79 rfl
  conv at e79 => rhs; whnf
  have e80 := hFm.old 80 rfl
  conv at e80 => rhs; whnf
  have e81 := hFm.old 81 rfl
  conv at e81 => rhs; whnf
  have e82 := hFm.old 82 rfl
  conv at e82 => rhs; whnf
  have e83 := hFm.old 83 rfl
  conv at e83 => rhs; whnf
  have e84 := hFm.old 84 rfl
  conv at e84 => rhs; whnf
  have e85 := hFm.old 85 rfl
  conv at e85 => rhs; whnf
  have e86 := hFm.old 86 rfl
  conv at e86 => rhs; whnf
  have e87 := hFm.old 87 rfl
  conv at e87 => rhs; whnf
  have e88 := hFm.old 88 rfl
  conv at e88 => rhs; whnf
  have e89 := hFm.old 89 rfl
  conv at e89 => rhs; whnf
  have e90 := hFm.old 90 rfl
  conv at e90 => rhs; whnf
  have e91 := hFm.old 91 rfl
  conv at e91 => rhs; whnf
  have e92 := hFm.old 92 rfl
  conv at e92 => rhs; whnf
  have e93 := hFm.old 93 rfl
  conv at e93 => rhs; whnf
  have e94 := hFm.old 94 rfl
  conv at e94 => rhs; whnf
  have e95 := hFm.old 95 rfl
  conv at e95 => rhs; whnf
  have e96 := hFm.old 96 rfl
  conv at e96 => rhs; whnf
  have e97 := hFm.old 97 rfl
  conv at e97 => rhs; whnf
  have e98 := hFm.old 98 rfl
  conv at e98 => rhs; whnf
  have e99 := hFm.old 99 rfl
  conv at e99 => rhs; whnf
  have e100 := hFm.old 100 rfl
  conv at e100 => rhs; whnf
  have e101 := hFm.old 101 rfl
  conv at e101 => rhs; whnf
  have e102 := hFm.old 102 rfl
  conv at e102 => rhs; whnf
  have e103 := hFm.old 103 rfl
  conv at e103 => rhs; whnf
  have e104 := hFm.old 104 rfl
  conv at e104 => rhs; whnf
  have e105 := hFm.old 105 rfl
  conv at e105 => rhs; whnf
  have e106 := hFm.old 106 rfl
  conv at e106 => rhs; whnf
  have e107 := hFm.old 107 rfl
  conv at e107 => rhs; whnf
  have e108 := hFm.old 108 rfl
  conv at e108 => rhs; whnf
  have e109 := hFm.old 109 rfl
  conv at e109 => rhs; whnf
  have e110 := hFm.old 110 rfl
  conv at e110 => rhs; whnf
  have hsz := hFm.size
  have hdf := hFm.defers
  clear hd hFm
  obtain ⟨t, df⟩ := a
  simp only at hsz hdf
  subst hdf
  obtain ⟨x, hx⟩ : ∃ x : Nat → Value, ∀ i, t.getD i undef = x i := ⟨fun i => t.getD i undef, fun _ => rfl⟩
  have h18 := (hx 18).symm.trans e18
  have h0 := (hx 0).symm.trans e0
  have h1 := (hx 1).symm.trans e1
  have h2 := (hx 2).symm.trans e2
  have h3 := (hx 3).symm.trans e3
  have h4 := (hx 4).symm.trans e4
  have h5 := (hx 5).symm.trans e5
  have h6 := (hx 6).symm.trans e6
  have h7 := (hx 7).symm.trans e7
  have h8 := (hx 8).symm.trans e8
  have h9 := (hx 9).symm.trans e9
  have h10 := (hx 10).symm.trans e10
  have h11 := (hx 11).symm.trans e11
  have h12 := (hx 12).symm.trans e12
  have h13 := (hx 13).symm.trans e13
  have h14 := (hx 14).symm.trans e14
  have h15 := (hx 15).symm.trans e15
  have h16 := (hx 16).symm.trans e16
  have h17 := (hx 17).symm.trans e17
  have h19 := (hx 19).symm.trans e19
  have h20 := (hx 20).symm.trans e20
  have h21 := (hx 21).symm.trans e21
  have h22 := (hx 22).symm.trans e22
  have h23 := (hx 23).symm.trans e23
  have h24 := (hx 24).symm.trans e24
  have h25 := (hx 25).symm.trans e25
  have h26 := (hx 26).symm.trans e26
  have h27 := (hx 27).symm.trans e27
  have h28 := (hx 28).symm.trans e28
  have h29 := (hx 29).symm.trans e29
  have h30 := (hx 30).symm.trans e30
  have h31 := (hx 31).symm.trans e31
  have h32 := (hx 32).symm.trans e32
  have h33 := (hx 33).symm.trans e33
  have h34 := (hx 34).symm.trans e34
  have h35 := (hx 35).symm.trans e35
  have h36 := (hx 36).symm.trans e36
  have h37 := (hx 37).symm.trans e37
  have h38 := (hx 38).symm.trans e38
  have h48 := (hx 48).symm.trans e48
  have h49 := (hx 49).symm.trans e49
  have h50 := (hx 50).symm.trans e50
  have h51 := (hx 51).symm.trans e51
  have h52 := (hx 52).symm.trans e52
  have h53 := (hx 53).symm.trans e53
  have h54 := (hx 54).symm.trans e54
  have h55 := (hx 55).symm.trans e55
  have h56 := (hx 56).symm.trans e56
  have h57 := (hx 57).symm.trans e57
  have h58 := (hx 58).symm.trans e58
  have h59 := (hx 59).symm.trans e59
  have h60 := (hx 60).symm.trans e60
  have h61 := (hx 61).symm.trans e61
  have h62 := (hx 62).symm.trans e62
  have h63 := (hx 63).symm.trans e63
  have h64 := (hx 64).symm.trans e64
  have h65 := (hx 65).symm.trans e65
  have h66 := (hx 66).symm.trans e66
  have h67 := (hx 67).symm.trans e67
  have h68 := (hx 68).symm.trans e68
  have h69 := (hx 69).symm.trans e69
  have h70 := (hx 70).symm.trans e70
  have h71 := (hx 71).symm.trans e71
  have h72 := (hx 72).symm.trans e72
  have h73 := (hx 73).symm.trans e73
  have h74 := (hx 74).symm.trans e74
  have h75 := (hx 75).symm.trans e75
  have h76 := (hx 76).symm.trans e76
  have h77 := (hx 77).symm.trans e77
  have h78 := (hx 78).symm.trans e78
  have h79 := (hx 79).symm.trans e79
  have h80 := (hx 80).symm.trans e80
  have h81 := (hx 81).symm.trans e81
  have h82 := (hx 82).symm.trans e82
  have h83 := (hx 83).symm.trans e83
  have h84 := (hx 84).symm.trans e84
  have h85 := (hx 85).symm.trans e85
  have h86 := (hx 86).symm.trans e86
  have h87 := (hx 87).symm.trans e87
  have h88 := (hx 88).symm.trans e88
  have h89 := (hx 89).symm.trans e89
  have h90 := (hx 90).symm.trans e90
  have h91 := (hx 91).symm.trans e91
  have h92 := (hx 92).symm.trans e92
  have h93 := (hx 93).symm.trans e93
  have h94 := (hx 94).symm.trans e94
  have h95 := (hx 95).symm.trans e95
  have h96 := (hx 96).symm.trans e96
  have h97 := (hx 97).symm.trans e97
  have h98 := (hx 98).symm.trans e98
  have h99 := (hx 99).symm.trans e99
  have h100 := (hx 100).symm.trans e100
  have h101 := (hx 101).symm.trans e101
  have h102 := (hx 102).symm.trans e102
  have h103 := (hx 103).symm.trans e103
  have h104 := (hx 104).symm.trans e104
  have h105 := (hx 105).symm.trans e105
  have h106 := (hx 106).symm.trans e106
  have h107 := (hx 107).symm.trans e107
  have h108 := (hx 108).symm.trans e108
  have h109 := (hx 109).symm.trans e109
  have h110 := (hx 110).symm.trans e110
  have ht' : t = #[x 0, x 1, x 2, x 3, x 4, x 5, x 6, x 7, x 8, x 9, x 10, x 11, x 12, x 13, x 14, x 15, x 16, x 17, x 18, x 19, x 20, x 21, x 22, x 23, x 24, x 25, x 26, x 27, x 28, x 29, x 30, x 31, x 32, x 33, x 34, x 35, x 36, x 37, x 38, x 39, x 40, x 41, x 42, x 43, x 44, x 45, x 46, x 47, x 48, x 49, x 50, x 51, x 52, x 53, x 54, x 55, x 56, x 57, x 58, x 59, x 60, x 61, x 62, x 63, x 64, x 65, x 66, x 67, x 68, x 69, x 70, x 71, x 72, x 73, x 74, x 75, x 76, x 77, x 78, x 79, x 80, x 81, x 82, x 83, x 84, x 85, x 86, x 87, x 88, x 89, x 90, x 91, x 92, x 93, x 94, x 95, x 96, x 97, x 98, x 99, x 100, x 101, x 102, x 103, x 104, x 105, x 106, x 107, x 108, x 109, x 110] := frame_lit t 111 hsz x hx
  clear hx hsz hz e18 e0 e1 e2 e3 e4 e5 e6 e7 e8 e9 e10 e11 e12 e13 e14 e15 e16 e17 e19 e20 e21 e22 e23 e24 e25 e26 e27 e28 e29 e30 e31 e32 e33 e34 e35 e36 e37 e38 e48 e49 e50 e51 e52 e53 e54 e55 e56 e57 e58 e59 e60 e61 e62 e63 e64 e65 e66 e67 e68 e69 e70 e71 e72 e73 e74 e75 e76 e77 e78 e79 e80 e81 e82 e83 e84 e85 e86 e87 e88 e89 e90 e91 e92 e93 e94 e95 e96 e97 e98 e99 e100 e101 e102 e103 e104 e105 e106 e107 e108 e109 e110
  subst ht'
  dsimp only
  rw [h18, h0, h1, h2, h3, h4, h5, h6, h7, h8, h9, h10, h11, h12, h13, h14, h15, h16, h17, h19, h20, h21, h22, h23, h24, h25, h26, h27, h28, h29, h30, h31, h32, h33, h34, h35, h36, h37, h38, h48, h49, h50, h51, h52, h53, h54, h55, h56, h57, h58, h59, h60, h61, h62, h63, h64, h65, h66, h67, h68, h69, h70, h71, h72, h73, h74, h75, h76, h77, h78, h79, h80, h81, h82, h83, h84, h85, h86, h87, h88, h89, h90, h91, h92, h93, h94, h95, h96, h97, h98, h99, h100, h101, h102, h103, h104, h105, h106, h107, h108, h109, h110]
  clear h18 h0 h1 h2 h3 h4 h5 h6 h7 h8 h9 h10 h11 h12 h13 h14 h15 h16 h17 h19 h20 h21 h22 h23 h24 h25 h26 h27 h28 h29 h30 h31 h32 h33 h34 h35 h36 h37 h38 h48 h49 h50 h51 h52 h53 h54 h55 h56 h57 h58 h59 h60 h61 h62 h63 h64 h65 h66 h67 h68 h69 h70 h71 h72 h73 h74 h75 h76 h77 h78 h79 h80 h81 h82 h83 h84 h85 h86 h87 h88 h89 h90 h91 h92 h93 h94 h95 h96 h97 h98 h99 h100 h101 h102 h103 h104 h105 h106 h107 h108 h109 h110
  have hb := from_drew hS
  replace hB := hB.trans (hb.mono hB.size)
  replace hD := hD.later hb
  replace hG := hG.later hb
  replace hRA := hRA.later hb
  replace hRD := hRD.later hb
  clear hS hb qD qG HW1 HW2 HAt hv
  have qD := hD.at
  unfold confBox at qD
  have qG := hG.at
  unfold faBox at qG
  go_wp2_with fail
  refine (HT.out _ (hns.later hB)).mono ?_
  rintro e wx ⟨rfl, hb⟩
  replace hB := hB.trans (hb.mono hB.size)
  replace hD := hD.later hb
  replace hG := hG.later hb
  replace hRA := hRA.later hb
  replace hRD := hRD.later hb
  clear hb qD qG
  have qD := hD.at
  unfold confBox at qD
  have qG := hG.at
  unfold faBox at qG
  go_wp2_with fail
  refine (HCl.out _).mono ?_
  rintro e wl ⟨rfl, rfl⟩
  go_wp2_with fail
  refine (HW3.out _).mono ?_
  rintro e wl ⟨rfl, rfl⟩
  go_upto_region 11 with fail
  refine region_slots [some 53, some 54, some 55, some 56, some 57, some 58, some 59, some 60, some 61, some 62, some 63, some 21] [none, none, none, none, none, none, none, none, none, none, none, none] 111 12 rfl (by kernel_rfl) (by kernel_rfl) rfl rfl ?_
  apply step_fix
  · intro a W Zs hS hFm hz hd
    have h15 := hFm.old 15 rfl
    conv at h15 => rhs; whnf
    replace h15 := ev_get hFm.size h15
    have hq := (hD.drew1.later hS).at
    unfold confBox at hq
    refine .inl ⟨wanted_none rfl _, fun K hK => ?_⟩
    have HK := Lib.hid hK
    clear hd hFm hK
    go_simp
    exact HK.out _ _ rfl (Below.refl _ _)
  simp only [List.nil_append, List.cons_append]
  apply step_fix
  · intro a W Zs hS hFm hz hd
    have h16 := hFm.old 16 rfl
    conv at h16 => rhs; whnf
    replace h16 := ev_get hFm.size h16
    have hq := (hG.drew1.later hS).at
    unfold faBox at hq
    refine .inl ⟨wanted_none rfl _, fun K hK => ?_⟩
    have HK := Lib.hid hK
    clear hd hFm hK
    go_simp
    exact HK.out _ _ rfl (Below.refl _ _)
  simp only [List.nil_append, List.cons_append]
  apply step_fix
  · intro a W Zs hS hFm hz hd
    have h20 := hFm.old 20 rfl
    conv at h20 => rhs; whnf
    replace h20 := ev_get hFm.size h20
    refine .inl ⟨wanted_none rfl _, fun K hK => ?_⟩
    have HK := Lib.hid hK
    clear hd hFm hK
    go_simp
    exact HK.out _ _ rfl (Below.refl _ _)
  simp only [List.nil_append, List.cons_append]
  apply step_fix
  · intro a W Zs hS hFm hz hd
    have h3 := hFm.old 3 rfl
    conv at h3 => rhs; whnf
    replace h3 := ev_get hFm.size h3
    refine .inl ⟨wanted_none rfl _, fun K hK => ?_⟩
    have HK := Lib.hid hK
    clear hd hFm hK
    go_simp
    exact HK.out _ _ rfl (Below.refl _ _)
  simp only [List.nil_append, List.cons_append]
  apply step_fix
  · intro a W Zs hS hFm hz hd
    have h15 := hFm.old 15 rfl
    conv at h15 => rhs; whnf
    replace h15 := ev_get hFm.size h15
    refine .inl ⟨wanted_none rfl _, fun K hK => ?_⟩
    have HK := Lib.hid hK
    clear hd hFm hK
    go_simp
    exact HK.out _ _ rfl (Below.refl _ _)
  simp only [List.nil_append, List.cons_append]
  apply step_fix
  · intro a W Zs hS hFm hz hd
    have h57 := ev_get hFm.size (hd 4 57 rfl rfl)
    have hq := (hD.drew1.later hS).at
    unfold confBox at hq
    refine .inl ⟨wanted_none rfl _, fun K hK => ?_⟩
    have HK := Lib.hid hK
    clear hd hFm hK
    go_simp
    exact HK.out _ _ rfl (Below.refl _ _)
  simp only [List.nil_append, List.cons_append]
  apply step_fix
  · intro a W Zs hS hFm hz hd
    have h56 := ev_get hFm.size (hd 3 56 rfl rfl)
    have h58 := ev_get hFm.size (hd 5 58 rfl rfl)
    refine .inl ⟨wanted_none rfl _, fun K hK => ?_⟩
    have HK := Lib.hid hK
    clear hd hFm hK
    go_simp
    refine (HW4.out _).mono ?_
    rintro e W' ⟨rfl, rfl⟩
    exact HK.out _ _ rfl (Below.refl _ _)
  simp only [List.nil_append, List.cons_append]
  apply step_fix
  · intro a W Zs hS hFm hz hd
    have h17 := hFm.old 17 rfl
    conv at h17 => rhs; whnf
    replace h17 := ev_get hFm.size h17
    refine .inl ⟨wanted_none rfl _, fun K hK => ?_⟩
    have HK := Lib.hid hK
    clear hd hFm hK
    go_simp
    exact HK.out _ _ rfl (Below.refl _ _)
  simp only [List.nil_append, List.cons_append]
  apply step_fix
  · intro a W Zs hS hFm hz hd
    have h18 := hFm.old 18 rfl
    conv at h18 => rhs; whnf
    replace h18 := ev_get hFm.size h18
    refine .inl ⟨wanted_none rfl _, fun K hK => ?_⟩
    have HK := Lib.hid hK
    clear hd hFm hK
    go_simp
    exact HK.out _ _ rfl (Below.refl _ _)
  simp only [List.nil_append, List.cons_append]
  apply step_fix
  · intro a W Zs hS hFm hz hd
    have h19 := hFm.old 19 rfl
    conv at h19 => rhs; whnf
    replace h19 := ev_get hFm.size h19
    refine .inl ⟨wanted_none rfl _, fun K hK => ?_⟩
    have HK := Lib.hid hK
    clear hd hFm hK
    go_simp
    exact HK.out _ _ rfl (Below.refl _ _)
  simp only [List.nil_append, List.cons_append]
  apply step_fix
  · intro a W Zs hS hFm hz hd
    have h53 := ev_get hFm.size (hd 0 53 rfl rfl)
    have h54 := ev_get hFm.size (hd 1 54 rfl rfl)
    have h55 := ev_get hFm.size (hd 2 55 rfl rfl)
    have h59 := ev_get hFm.size (hd 6 59 rfl rfl)
    have h60 := ev_get hFm.size (hd 7 60 rfl rfl)
    have h61 := ev_get hFm.size (hd 8 61 rfl rfl)
    have h62 := ev_get hFm.size (hd 9 62 rfl rfl)
    refine .inl ⟨wanted_none rfl _, fun K hK => ?_⟩
    have HK := Lib.hid hK
    clear hd hFm hK
    go_simp
    refine (HEm.out _ (hRA.drew1.later hS)).mono ?_
    rintro e W' ⟨rfl, hb⟩
    exact HK.out _ _ rfl hb
  simp only [List.nil_append, List.cons_append]
  apply step_fix
  · intro a W Zs hS hFm hz hd
    have h63 := ev_get hFm.size (hd 10 63 rfl rfl)
    refine .inl ⟨wanted_none rfl _, fun K hK => ?_⟩
    have HK := Lib.hid hK
    clear hd hFm hK
    go_simp
    exact HK.out _ _ rfl (Below.refl _ _)
  simp only [List.nil_append, List.cons_append]
  intro a w3 Zs hS hFm hz hd
  have e21 := hd 11 21 (by decide) rfl
  have e0 := hFm.old 0 rfl
  conv at e0 => rhs; whnf
  have e1 := hFm.old 1 rfl
  conv at e1 => rhs; whnf
  have e2 := hFm.old 2 rfl
  conv at e2 => rhs; whnf
  have e3 := hFm.old 3 rfl
  conv at e3 => rhs; whnf
  have e4 := hFm.old 4 rfl
  conv at e4 => rhs; whnf
  have e5 := hFm.old 5 rfl
  conv at e5 => rhs; whnf
  have e6 := hFm.old 6 rfl
  conv at e6 => rhs; whnf
  have e7 := hFm.old 7 rfl
  conv at e7 => rhs; whnf
  have e8 := hFm.old 8 rfl
  conv at e8 => rhs; whnf
  have e9 := hFm.old 9 rfl
  conv at e9 => rhs; whnf
  have e10 := hFm.old 10 rfl
  conv at e10 => rhs; whnf
  have e11 := hFm.old 11 rfl
  conv at e11 => rhs; whnf
  have e12 := hFm.old 12 rfl
  conv at e12 => rhs; whnf
  have e13 := hFm.old 13 rfl
  conv at e13 => rhs; whnf
  have e14 := hFm.old 14 rfl
  conv at e14 => rhs; whnf
  have e15 := hFm.old 15 rfl
  conv at e15 => rhs; whnf
  have e16 := hFm.old 16 rfl
  conv at e16 => rhs; whnf
  have e17 := hFm.old 17 rfl
  conv at e17 => rhs; whnf
  have e18 := hFm.old 18 rfl
  conv at e18 => rhs; whnf
  have e19 := hFm.old 19 rfl
  conv at e19 => rhs; whnf
  have e20 := hFm.old 20 rfl
  conv at e20 => rhs; whnf
  have e22 := hFm.old 22 rfl
  conv at e22 => rhs; whnf
  have e23 := hFm.old 23 rfl
  conv at e23 => rhs; whnf
  have e24 := hFm.old 24 rfl
  conv at e24 => rhs; whnf
  have e25 := hFm.old 25 rfl
  conv at e25 => rhs; whnf
  have e26 := hFm.old 26 rfl
  conv at e26 => rhs; whnf
  have e27 := hFm.old 27 rfl
  conv at e27 => rhs; whnf
  have e28 := hFm.old 28 rfl
  conv at e28 => rhs; whnf
  have e29 := hFm.old 29 rfl
  conv at e29 => rhs; whnf
  have e30 := hFm.old 30 rfl
  conv at e30 => rhs; whnf
  have e31 := hFm.old 31 rfl
  conv at e31 => rhs; whnf
  have e32 := hFm.old 32 rfl
  conv at e32 => rhs; whnf
  have e33 := hFm.old 33 rfl
  conv at e33 => rhs; whnf
  have e34 := hFm.old 34 rfl
  conv at e34 => rhs; whnf
  have e35 := hFm.old 35 rfl
  conv at e35 => rhs; whnf
  have e36 := hFm.old 36 rfl
  conv at e36 => rhs; whnf
  have e37 := hFm.old 37 rfl
  conv at e37 => rhs; whnf
  have e38 := hFm.old 38 rfl
  conv at e38 => rhs; whnf
  have e39 := hFm.old 39 rfl
  conv at e39 => rhs; whnf
  have e40 := hFm.old 40 rfl
  conv at e40 => rhs; whnf
  have e41 := hFm.old 41 rfl
  conv at e41 => rhs; whnf
  have e42 := hFm.old 42 rfl
  conv at e42 => rhs; whnf
  have e43 := hFm.old 43 rfl
  conv at e43 => rhs; whnf
  have e44 := hFm.old 44 rfl
  conv at e44 => rhs; whnf
  have e45 := hFm.old 45 rfl
  conv at e45 => rhs; whnf
  have e46 := hFm.old 46 rfl
  conv at e46 => rhs; whnf
  have e47 := hFm.old 47 rfl
  conv at e47 => rhs; whnf
  have e48 := hFm.old 48 rfl
  conv at e48 => rhs; whnf
  have e49 := hFm.old 49 rfl
  conv at e49 => rhs; whnf
  have e50 := hFm.old 50 rfl
  conv at e50 => rhs; whnf
  have e51 := hFm.old 51 rfl
  conv at e51 => rhs; whnf
  have e52 := hFm.old 52 rfl
  conv at e52 => rhs; whnf
  have e64 := hFm.old 64 rfl
  conv at e64 => rhs; whnf
  have e65 := hFm.old 65 rfl
  conv at e65 => rhs; whnf
  have e66 := hFm.old 66 rfl
  conv at e66 => rhs; whnf
  have e67 := hFm.old 67 rfl
  conv at e67 => rhs; whnf
  have e68 := hFm.old 68 rfl
  conv at e68 => rhs; whnf
  have e69 := hFm.old 69 rfl
  conv at e69 => rhs; whnf
  have e70 := hFm.old 70 rfl
  conv at e70 => rhs; whnf
  have e71 := hFm.old 71 rfl
  conv at e71 => rhs; whnf
  have e72 := hFm.old 72 rfl
  conv at e72 => rhs; whnf
  have e73 := hFm.old 73 rfl
  conv at e73 => rhs; whnf
  have e74 := hFm.old 74 rfl
  conv at e74 => rhs; whnf
  have e75 := hFm.old 75 rfl
  conv at e75 => rhs; whnf
  have e76 := hFm.old 76 rfl
  conv at e76 => rhs; whnf
  have e77 := hFm.old 77 rfl
  conv at e77 => rhs; whnf
  have e78 := hFm.old 78 rfl
  conv at e78 => rhs; whnf
  have e79 := hFm.old 79 rfl
  conv at e79 => rhs; whnf
  have e80 := hFm.old 80 rfl
  conv at e80 => rhs; whnf
  have e81 := hFm.old 81 rfl
  conv at e81 => rhs; whnf
  have e82 := hFm.old 82 rfl
  conv at e82 => rhs; whnf
  have e83 := hFm.old 83 rfl
  conv at e83 => rhs; whnf
  have e84 := hFm.old 84 rfl
  conv at e84 => rhs; whnf
  have e85 := hFm.old 85 rfl
  conv at e85 => rhs; whnf
  have e86 := hFm.old 86 rfl
  conv at e86 => rhs; whnf
  have e87 := hFm.old 87 rfl
  conv at e87 => rhs; whnf
  have e88 := hFm.old 88 rfl
  conv at e88 => rhs; whnf
  have e89 := hFm.old 89 rfl
  conv at e89 => rhs; whnf
  have e90 := hFm.old 90 rfl
  conv at e90 => rhs; whnf
  have e91 := hFm.old 91 rfl
  conv at e91 => rhs; whnf
  have e92 := hFm.old 92 rfl
  conv at e92 => rhs; whnf
  have e93 := hFm.old 93 rfl
  conv at e93 => rhs; whnf
  have e94 := hFm.old 94 rfl
  conv at e94 => rhs; whnf
  have e95 := hFm.old 95 rfl
  conv at e95 => rhs; whnf
  have e96 := hFm.old 96 rfl
  conv at e96 => rhs; whnf
  have e97 := hFm.old 97 rfl
  conv at e97 => rhs; whnf
  have e98 := hFm.old 98 rfl
  conv at e98 => rhs; whnf
  have e99 := hFm.old 99 rfl
  conv at e99 => rhs; whnf
  have e100 := hFm.old 100 rfl
  conv at e100 => rhs; whnf
  have e101 := hFm.old 101 rfl
  conv at e101 => rhs; whnf
  have e102 := hFm.old 102 rfl
  conv at e102 => rhs; whnf
  have e103 := hFm.old 103 rfl
  conv at e103 => rhs; whnf
  have e104 := hFm.old 104 rfl
  conv at e104 => rhs; whnf
  have e105 := hFm.old 105 rfl
  conv at e105 => rhs; whnf
  have e106 := hFm.old 106 rfl
  conv at e106 => rhs; whnf
  have e107 := hFm.old 107 rfl
  conv at e107 => rhs; whnf
  have e108 := hFm.old 108 rfl
  conv at e108 => rhs; whnf
  have e109 := hFm.old 109 rfl
  conv at e109 => rhs; whnf
  have e110 := hFm.old 110 rfl
  conv at e110 => rhs; whnf
  have hsz := hFm.size
  have hdf := hFm.defers
  clear hd hFm
  obtain ⟨t, df⟩ := a
  simp only at hsz hdf
  subst hdf
  obtain ⟨x, hx⟩ : ∃ x : Nat → Value, ∀ i, t.getD i undef = x i := ⟨fun i => t.getD i undef, fun _ => rfl⟩
  have h21 := (hx 21).symm.trans e21
  have h0 := (hx 0).symm.trans e0
  have h1 := (hx 1).symm.trans e1
  have h2 := (hx 2).symm.trans e2
  have h3 := (hx 3).symm.trans e3
  have h4 := (hx 4).symm.trans e4
  have h5 := (hx 5).symm.trans e5
  have h6 := (hx 6).symm.trans e6
  have h7 := (hx 7).symm.trans e7
  have h8 := (hx 8).symm.trans e8
  have h9 := (hx 9).symm.trans e9
  have h10 := (hx 10).symm.trans e10
  have h11 := (hx 11).symm.trans e11
  have h12 := (hx 12).symm.trans e12
  have h13 := (hx 13).symm.trans e13
  have h14 := (hx 14).symm.trans e14
  have h15 := (hx 15).symm.trans e15
  have h16 := (hx 16).symm.trans e16
  have h17 := (hx 17).symm.trans e17
  have h18 := (hx 18).symm.trans e18
  have h19 := (hx 19).symm.trans e19
  have h20 := (hx 20).symm.trans e20
  have h22 := (hx 22).symm.trans e22
  have h23 := (hx 23).symm.trans e23
  have h24 := (hx 24).symm.trans e24
  have h25 := (hx 25).symm.trans e25
  have h26 := (hx 26).symm.trans e26
  have h27 := (hx 27).symm.trans e27
  have h28 := (hx 28).symm.trans e28
  have h29 := (hx 29).symm.trans e29
  have h30 := (hx 30).symm.trans e30
  have h31 := (hx 31).symm.trans e31
  have h32 := (hx 32).symm.trans e32
  have h33 := (hx 33).symm.trans e33
  have h34 := (hx 34).symm.trans e34
  have h35 := (hx 35).symm.trans e35
  have h36 := (hx 36).symm.trans e36
  have h37 := (hx 37).symm.trans e37
  have h38 := (hx 38).symm.trans e38
  have h39 := (hx 39).symm.trans e39
  have h40 := (hx 40).symm.trans e40
  have h41 := (hx 41).symm.trans e41
  have h42 := (hx 42).symm.trans e42
  have h43 := (hx 43).symm.trans e43
  have h44 := (hx 44).symm.trans e44
  have h45 := (hx 45).symm.trans e45
  have h46 := (hx 46).symm.trans e46
  have h47 := (hx 47).symm.trans e47
  have h48 := (hx 48).symm.trans e48
  have h49 := (hx 49).symm.trans e49
  have h50 := (hx 50).symm.trans e50
  have h51 := (hx 51).symm.trans e51
  have h52 := (hx 52).symm.trans e52
  have h64 := (hx 64).symm.trans e64
  have h65 := (hx 65).symm.trans e65
  have h66 := (hx 66).symm.trans e66
  have h67 := (hx 67).symm.trans e67
  have h68 := (hx 68).symm.trans e68
  have h69 := (hx 69).symm.trans e69
  have h70 := (hx 70).symm.trans e70
  have h71 := (hx 71).symm.trans e71
  have h72 := (hx 72).symm.trans e72
  have h73 := (hx 73).symm.trans e73
  have h74 := (hx 74).symm.trans e74
  have h75 := (hx 75).symm.trans e75
  have h76 := (hx 76).symm.trans e76
  have h77 := (hx 77).symm.trans e77
  have h78 := (hx 78).symm.trans e78
  have h79 := (hx 79).symm.trans e79
  have h80 := (hx 80).symm.trans e80
  have h81 := (hx 81).symm.trans e81
  have h82 := (hx 82).symm.trans e82
  have h83 := (hx 83).symm.trans e83
  have h84 := (hx 84).symm.trans e84
  have h85 := (hx 85).symm.trans e85
  have h86 := (hx 86).symm.trans e86
  have h87 := (hx 87).symm.trans e87
  have h88 := (hx 88).symm.trans e88
  have h89 := (hx 89).symm.trans e89
  have h90 := (hx 90).symm.trans e90
  have h91 := (hx 91).symm.trans e91
  have h92 := (hx 92).symm.trans e92
  have h93 := (hx 93).symm.trans e93
  have h94 := (hx 94).symm.trans e94
  have h95 := (hx 95).symm.trans e95
  have h96 := (hx 96).symm.trans e96
  have h97 := (hx 97).symm.trans e97
  have h98 := (hx 98).symm.trans e98
  have h99 := (hx 99).symm.trans e99
  have h100 := (hx 100).symm.trans e100
  have h101 := (hx 101).symm.trans e101
  have h102 := (hx 102).symm.trans e102
  have h103 := (hx 103).symm.trans e103
  have h104 := (hx 104).symm.trans e104
  have h105 := (hx 105).symm.trans e105
  have h106 := (hx 106).symm.trans e106
  have h107 := (hx 107).symm.trans e107
  have h108 := (hx 108).symm.trans e108
  have h109 := (hx 109).symm.trans e109
  have h110 := (hx 110).symm.trans e110
  have ht' : t = #[x 0, x 1, x 2, x 3, x 4, x 5, x 6, x 7, x 8, x 9, x 10, x 11, x 12, x 13, x 14, x 15, x 16, x 17, x 18, x 19, x 20, x 21, x 22, x 23, x 24, x 25, x 26, x 27, x 28, x 29, x 30, x 31, x 32, x 33, x 34, x 35, x 36, x 37, x 38, x 39, x 40, x 41, x 42, x 43, x 44, x 45, x 46, x 47, x 48, x 49, x 50, x 51, x 52, x 53, x 54, x 55, x 56, x 57, x 58, x 59, x 60, x 61, x 62, x 63, x 64, x 65, x 66, x 67, x 68, x 69, x 70, x 71, x 72, x 73, x 74, x 75, x 76, x 77, x 78, x 79, x 80, x 81, x 82, x 83, x 84, x 85, x 86, x 87, x 88, x 89, x 90, x 91, x 92, x 93, x 94, x 95, x 96, x 97, x 98, x 99, x 100, x 101, x 102, x 103, x 104, x 105, x 106, x 107, x 108, x 109, x 110] := frame_lit t 111 hsz x hx
  clear hx hsz hz e21 e0 e1 e2 e3 e4 e5 e6 e7 e8 e9 e10 e11 e12 e13 e14 e15 e16 e17 e18 e19 e20 e22 e23 e24 e25 e26 e27 e28 e29 e30 e31 e32 e33 e34 e35 e36 e37 e38 e39 e40 e41 e42 e43 e44 e45 e46 e47 e48 e49 e50 e51 e52 e64 e65 e66 e67 e68 e69 e70 e71 e72 e73 e74 e75 e76 e77 e78 e79 e80 e81 e82 e83 e84 e85 e86 e87 e88 e89 e90 e91 e92 e93 e94 e95 e96 e97 e98 e99 e100 e101 e102 e103 e104 e105 e106 e107 e108 e109 e110
  subst ht'
  dsimp only
  rw [h21, h0, h1, h2, h3, h4, h5, h6, h7, h8, h9, h10, h11, h12, h13, h14, h15, h16, h17, h18, h19, h20, h22, h23, h24, h25, h26, h27, h28, h29, h30, h31, h32, h33, h34, h35, h36, h37, h38, h39, h40, h41, h42, h43, h44, h45, h46, h47, h48, h49, h50, h51, h52, h64, h65, h66, h67, h68, h69, h70, h71, h72, h73, h74, h75, h76, h77, h78, h79, h80, h81, h82, h83, h84, h85, h86, h87, h88, h89, h90, h91, h92, h93, h94, h95, h96, h97, h98, h99, h100, h101, h102, h103, h104, h105, h106, h107, h108, h109, h110]
  clear h21 h0 h1 h2 h3 h4 h5 h6 h7 h8 h9 h10 h11 h12 h13 h14 h15 h16 h17 h18 h19 h20 h22 h23 h24 h25 h26 h27 h28 h29 h30 h31 h32 h33 h34 h35 h36 h37 h38 h39 h40 h41 h42 h43 h44 h45 h46 h47 h48 h49 h50 h51 h52 h64 h65 h66 h67 h68 h69 h70 h71 h72 h73 h74 h75 h76 h77 h78 h79 h80 h81 h82 h83 h84 h85 h86 h87 h88 h89 h90 h91 h92 h93 h94 h95 h96 h97 h98 h99 h100 h101 h102 h103 h104 h105 h106 h107 h108 h109 h110
  have hb := from_drew hS
  replace hB := hB.trans (hb.mono hB.size)
  replace hD := hD.later hb
  replace hG := hG.later hb
  replace hRA := hRA.later hb
  replace hRD := hRD.later hb
  clear hS hb qD qG HT HCl HW3 HW4 HEm
  have qD := hD.at
  unfold confBox at qD
  have qG := hG.at
  unfold faBox at qG
  go_wp2_with fail
  refine (HL.out _).mono ?_
  rintro e wx ⟨rfl, hb⟩
  replace hB := hB.trans (hb.mono hB.size)
  replace hD := hD.later hb
  replace hG := hG.later hb
  replace hRA := hRA.later hb
  replace hRD := hRD.later hb
  clear hb qD qG
  have qD := hD.at
  unfold confBox at qD
  have qG := hG.at
  unfold faBox at qG
  clear HL
  have HX : ((g.K == 1) = true ∧ (g.At == i) = true ∧ hitsB d g i j = true) ∨ ((g.K == 1) = true ∧ (g.At == i) = false ∧ (g.K == 2) = false ∧ hitsB d g i j = false) ∨ ((g.K == 1) = false ∧ (g.K == 2) = true ∧ (g.At == m) = true ∧ hitsB d g i j = true) ∨ ((g.K == 1) = false ∧ (g.K == 2) = true ∧ (g.At == m) = false ∧ hitsB d g i j = false) ∨ ((g.K == 1) = false ∧ (g.K == 2) = false ∧ hitsB d g i j = false) := by
    rw [HH.out]
    cases t1 : (g.K == 1)
    · cases t3 : (g.K == 2)
      · simp
      · cases (g.At == m) <;> simp
    · have t3 : (g.K == 2) = false := by simp at t1 ⊢; omega
      rw [t3]
      cases (g.At == i) <;> simp
  clear HH
  rcases HX with ⟨t1, t2, hh⟩ | ⟨t1, t2, t3, hh⟩ | ⟨t1, t3, t4, hh⟩ | ⟨t1, t3, t4, hh⟩ | ⟨t1, t3, hh⟩
  · cases e1 : decide (g.To ≤ r)
    · cases e2 : decide (g.F ≤ r)
      · have hs := E2.out (by rw [hh]; simpa using e1) (by simpa using e2)
        subst hs
        clear E1 E2 hh
        go_wp2
        go_ret
        exact ⟨rfl, hB⟩
      · clear E1 E2 hh
        go_wp2
        go_ret
        exact ⟨rfl, hB⟩
    · have hs := E1.out (.inr (by simpa using e1))
      subst hs
      clear E1 E2 hh
      go_wp2
      go_ret
      exact ⟨rfl, hB⟩
  · have hs := E1.out (.inl hh)
    subst hs
    clear E1 E2 hh
    go_wp2
    go_ret
    exact ⟨rfl, hB⟩
  · cases e1 : decide (g.To ≤ r)
    · cases e2 : decide (g.F ≤ r)
      · have hs := E2.out (by rw [hh]; simpa using e1) (by simpa using e2)
        subst hs
        clear E1 E2 hh
        go_wp2
        go_ret
        exact ⟨rfl, hB⟩
      · clear E1 E2 hh
        go_wp2
        go_ret
        exact ⟨rfl, hB⟩
    · have hs := E1.out (.inr (by simpa using e1))
      subst hs
      clear E1 E2 hh
      go_wp2
      go_ret
      exact ⟨rfl, hB⟩
  · have hs := E1.out (.inl hh)
    subst hs
    clear E1 E2 hh
    go_wp2
    go_ret
    exact ⟨rfl, hB⟩
  · have hs := E1.out (.inl hh)
    subst hs
    clear E1 E2 hh
    go_wp2
    go_ret
    exact ⟨rfl, hB⟩

end Go.Proofs.Ytbghpkdkfbpmeaa
/-
  FaultOnly answers true for every input, and leaves its arguments as they were. No condition.
-/
namespace Go.Proofs.Ytbghpkdkfbpmeaa
open Go.ChangeShapes Go.WideShapes Go.ChangeAt Go.RowKit Plait
set_option maxRecDepth 100000
open Go.ChangeMaps (open_string shut_string)
set_option linter.unusedVariables false

set_option maxRecDepth 100000 in
theorem faultOnly_lifted (os : Os) (started : os.Started) (H : Type) (enc : TypeId × Value → H) :
    ReturnsInHanded {} Try.checked os 5 .any (Rows.faultOnlySpec.pre6 enc Try.prog Try.f5 Rows.faultOnlyRow.domain false) (Rows.faultOnlySpec.post enc Try.prog Try.f5 false true false false) := by
  refine returnsInHanded_of_change (C := Try.checked) own started (by kernel_rfl) Try.func5
    (ChangeSpec.witness6 (enc := enc) (C := Try.checked) false ⟨#[], #[.agg #[.int .i64 0, .int .i64 0, .int .i64 0, .int .i64 0, .int .i64 0, .slice none 0 0], .agg #[.int .i64 0, .int .i64 0, .int .i64 0, .int .i64 0, .slice none 0 0, .slice none 0 0], .int .i64 0, .int .i64 0, .int .i64 0, .int .i64 0, .slice none 0 0], []⟩ 8 (by kernel_rfl) (by kernel_rfl) (by kernel_rfl) (by kernel_rfl)) ?_
  intro W base args ds gs before hval0 hW hcnd _
  have hval : ∀ (j : Nat) t v, Try.f5.params[j]? = some t → args[j]? = some v → Value.okWide Try.prog W .any base t v := hval0
  have hW' := hW
  obtain ⟨p, q, hA0, hV, rfl, hfz, hnd⟩ := hW
  have hA : DataW.TrodAll enc Try.prog W 0 (fun _ => true) true Try.f5.params.toList args.toList ds p := hA0
  rw [Try.params5] at hA hval
  obtain ⟨v0, vs0, d0, ds0, p0, q0, hargs, rfl, rfl, h0, r0⟩ := trodAll_cons hA
  obtain ⟨v1, vs1, d1, ds1, p1, q1, rfl, rfl, rfl, h1, r1⟩ := trodAll_cons r0
  obtain ⟨v2, vs2, d2, ds2, p2, q2, rfl, rfl, rfl, h2, r2⟩ := trodAll_cons r1
  obtain ⟨v3, vs3, d3, ds3, p3, q3, rfl, rfl, rfl, h3, r3⟩ := trodAll_cons r2
  obtain ⟨v4, vs4, d4, ds4, p4, q4, rfl, rfl, rfl, h4, r4⟩ := trodAll_cons r3
  obtain ⟨v5, vs5, d5, ds5, p5, q5, rfl, rfl, rfl, h5, r5⟩ := trodAll_cons r4
  obtain ⟨v6, vs6, d6, ds6, p6, q6, rfl, rfl, rfl, h6, r6⟩ := trodAll_cons r5
  obtain ⟨rfl, rfl, rfl⟩ := trodAll_nil r6
  obtain rfl : args = #[v0, v1, v2, v3, v4, v5, v6] := by cases args; simp_all
  obtain ⟨rfl, rfl⟩ := trodVars_none hV
  have k0 := h0
  have lt0 : ∀ x ∈ p0, x.block < W.heap.size := by obtain ⟨m, hm⟩ := k0; exact DataW.trod_lt m _ _ _ hm
  obtain ⟨c0, a0, cap0, rfl, w0, i0a, i0b, i0c, i0d, i0e⟩ := open_conf (hval 0 24 v0 rfl rfl) h0
  have k1 := h1
  have lt1 : ∀ x ∈ p1, x.block < W.heap.size := by obtain ⟨m, hm⟩ := k1; exact DataW.trod_lt m _ _ _ hm
  obtain ⟨c1, a1, cap1, e1, ecap1, rfl, w1, u1, i1a, i1b, i1c, i1d⟩ := open_fault (hval 1 27 v1 rfl rfl) h1
  obtain ⟨a2, rfl, rfl, rfl, w2⟩ := open_int Try.underlying3 (hval 2 3 v2 rfl rfl) h2
  obtain ⟨a3, rfl, rfl, rfl, w3⟩ := open_int Try.underlying3 (hval 3 3 v3 rfl rfl) h3
  obtain ⟨a4, rfl, rfl, rfl, w4⟩ := open_int Try.underlying3 (hval 4 3 v4 rfl rfl) h4
  obtain ⟨a5, rfl, rfl, rfl, w5⟩ := open_int Try.underlying3 (hval 5 3 v5 rfl rfl) h5
  have k6 := h6
  have lt6 : ∀ x ∈ p6, x.block < W.heap.size := by obtain ⟨m, hm⟩ := k6; exact DataW.trod_lt m _ _ _ hm
  obtain ⟨a6, len6, cap6, rfl⟩ := okWide_slice Try.underlying22 (hval 6 22 v6 rfl rfl)
  obtain ⟨z6, e6, w6⟩ : ∃ zs : List Int, len6 = zs.length ∧ Row W a6 zs := by
    obtain ⟨fuel, hf⟩ := h6
    rcases open_ints Try.underlying22 Try.underlying3 (by kernel_rfl) hf with ⟨hcs, _⟩ | ⟨x, l, c, zs, hcs, _, hl, hm, hz, _, hcell, hwz⟩
    · simp [Value.cells] at hcs
      obtain ⟨rfl, rfl, rfl⟩ := hcs
      exact row_nil W
    · simp [Value.cells] at hcs
      obtain ⟨rfl, rfl, rfl⟩ := hcs
      exact row_of hl hm (by rw [hz]; split <;> omega) hcell hwz
  subst e6
  clear hA0 hval0
  refine (faultOnly_walk c0 a0 cap0 c1 a1 cap1 e1 ecap1 a2 a3 a4 a5 a6 z6 cap6 W w0 i0a i0b i0c i0d i0e w1 u1 i1a i1b i1c i1d (wf_lo w2) (wf_hi w2) (wf_lo w3) (wf_hi w3) (wf_lo w4) (wf_hi w4) (wf_lo w5) (wf_hi w5) w6).mono fun e W' ⟨he, bel⟩ => ?_
  subst he
  exact ⟨_, rfl, _, _, _, [], _, [], hW', trodAll_mk1 (shut_bool Try.underlying4 _), (trodAll_cons_mk (Below.trod laidOut (by kernel_rfl) (of_decide_eq_true (by kernel_rfl)) k0 bel lt0) (trodAll_cons_mk (Below.trod laidOut (by kernel_rfl) (of_decide_eq_true (by kernel_rfl)) k1 bel lt1) (trodAll_cons_mk (shut_int Try.underlying3 w2) (trodAll_cons_mk (shut_int Try.underlying3 w3) (trodAll_cons_mk (shut_int Try.underlying3 w4) (trodAll_cons_mk (shut_int Try.underlying3 w5) (trodAll_cons_mk (Below.trod laidOut (by kernel_rfl) (of_decide_eq_true (by kernel_rfl)) k6 bel lt6) trodAll_mk0))))))), rfl, bel.frame _, fun h => by cases h⟩

theorem faultOnly_over : Rows.faultOnlyRow.holds Try.pinned (OpenSpec.ofChange Rows.faultOnlySpec) :=
  OpenClaim.holds_of_wide 5 Try.f5 rfl rfl rfl rfl rfl rfl rfl ⟨rfl, rfl, rfl, rfl, rfl⟩ rfl rfl rfl rfl rfl (by kernel_rfl) Try.func5 (by kernel_rfl)
    (of_decide_eq_true (by kernel_rfl)) (by unfold Func.isWrapper; first | (rw [if_pos (by decide +kernel)]; kernel_rfl) | (rw [if_neg (by decide +kernel)]; exact ⟨rfl, rfl⟩))
    (fun os started H enc _ => faultOnly_lifted os started H enc)

theorem faultOnly_holds : Rows.FaultOnlySaid := faultOnly_over
#print axioms faultOnly_holds
end Go.Proofs.Ytbghpkdkfbpmeaa

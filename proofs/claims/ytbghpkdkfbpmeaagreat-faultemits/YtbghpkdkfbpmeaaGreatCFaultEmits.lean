/-
  FaultEmits' walk.
-/
import Derived.Test.YtbghpkdkfbpmeaaGreatK15
import Derived.Test.YtbghpkdkfbpmeaaGreatK17
import Derived.Test.YtbghpkdkfbpmeaaGreatK11
namespace Go.Proofs.YtbghpkdkfbpmeaaGreat
open Go.RowKit Plait
set_option maxRecDepth 100000
set_option linter.unusedVariables false
set_option linter.unusedSimpArgs false

theorem ends_in (n l : Int) (h6 : 6 ≤ n) (l0 : 0 ≤ l) (l1 : l < 2 * n) : 0 ≤ endA n l ∧ endA n l < n ∧ 0 ≤ endB n l ∧ endB n l < n := by
  have e1 := Int.emod_nonneg (l + 1) (show n ≠ 0 by omega)
  have e2 := Int.emod_lt_of_pos (l + 1) (show 0 < n by omega)
  have e3 := Int.emod_nonneg (l - n + 2) (show n ≠ 0 by omega)
  have e4 := Int.emod_lt_of_pos (l - n + 2) (show 0 < n by omega)
  unfold endA endB
  split <;> omega

set_option maxHeartbeats 6400000 in
theorem faultEmits_walk (c : Cf) (a : Option Addr) (cap : Nat) (f : Fa) (fa : Option Addr) (fc : Nat) (fe : Option Addr) (fec : Nat) (round slot frm step : Int) (y : Fr) (ya : Option Addr) (yc : Nat) (na : Option Addr) (ns : List Int) (nc : Nat) (cut : Int) (w : World) (hrow : Row w a c.P) (iN : inI c.N) (iP : inI c.Pi) (iE : inI c.E) (iG : inI c.G) (iF : inI c.F)
    (hA : RowA w fa f.A) (hE : Row w fe f.D) (jK : inI f.K) (jA : inI f.At) (jF : inI f.F) (jT : inI f.To)
    (x1 : -9223372036854775808 ≤ round) (x2 : round ≤ 9223372036854775807) (y1 : -9223372036854775808 ≤ slot) (y2 : slot ≤ 9223372036854775807) (p1 : -9223372036854775808 ≤ frm) (p2 : frm ≤ 9223372036854775807) (q1 : -9223372036854775808 ≤ step) (q2 : step ≤ 9223372036854775807)
    (hfE : RowT w ya y.E) (iK : inI y.K) (iR : inI y.R) (iS : inI y.S) (iQ : inI y.P.K) (iV : inI y.P.V) (hns : Row w na ns) (r1 : -9223372036854775808 ≤ cut) (r2 : cut ≤ 9223372036854775807) :
    Calls Tryz.prog 3 #[.agg #[.int .i64 c.N, .int .i64 c.Pi, .int .i64 c.E, .int .i64 c.G, .int .i64 c.F, .slice a c.P.length cap], .agg #[.int .i64 f.K, .int .i64 f.At, .int .i64 f.F, .int .i64 f.To, .slice fa f.A.length fc, .slice fe f.D.length fec], .int .i64 round, .int .i64 slot, .int .i64 frm, .int .i64 step, .agg #[.int .i64 y.K, .int .i64 y.R, .int .i64 y.S, .int .i64 y.P.K, .int .i64 y.P.V, .slice ya y.E.length yc], .slice na ns.length nc, .int .i64 cut] w fun e w' => e = .returned (.bool true) ∧ Below w.heap.size w w' := by
  have hB : Below w.heap.size w (((w.alloc (.cells #[.int .i64 c.N, .int .i64 c.Pi, .int .i64 c.E, .int .i64 c.G, .int .i64 c.F, .slice a c.P.length cap] 24)).alloc (.cells #[.int .i64 f.K, .int .i64 f.At, .int .i64 f.F, .int .i64 f.To, .slice fa f.A.length fc, .slice fe f.D.length fec] 27)).alloc (.cells #[.int .i64 y.K, .int .i64 y.R, .int .i64 y.S, .int .i64 y.P.K, .int .i64 y.P.V, .slice ya y.E.length yc] 32)) := ((alloc_below w _).alloc (by simp) _).alloc (by simp; omega) _
  have k_c : Blk (((w.alloc (.cells #[.int .i64 c.N, .int .i64 c.Pi, .int .i64 c.E, .int .i64 c.G, .int .i64 c.F, .slice a c.P.length cap] 24)).alloc (.cells #[.int .i64 f.K, .int .i64 f.At, .int .i64 f.F, .int .i64 f.To, .slice fa f.A.length fc, .slice fe f.D.length fec] 27)).alloc (.cells #[.int .i64 y.K, .int .i64 y.R, .int .i64 y.S, .int .i64 y.P.K, .int .i64 y.P.V, .slice ya y.E.length yc] 32)) w.heap.size 24 (confBox c a cap) := ((Blk.newAt _ _ rfl).alloc _).alloc _
  have k_f : Blk (((w.alloc (.cells #[.int .i64 c.N, .int .i64 c.Pi, .int .i64 c.E, .int .i64 c.G, .int .i64 c.F, .slice a c.P.length cap] 24)).alloc (.cells #[.int .i64 f.K, .int .i64 f.At, .int .i64 f.F, .int .i64 f.To, .slice fa f.A.length fc, .slice fe f.D.length fec] 27)).alloc (.cells #[.int .i64 y.K, .int .i64 y.R, .int .i64 y.S, .int .i64 y.P.K, .int .i64 y.P.V, .slice ya y.E.length yc] 32)) (w.heap.size + 1) 27 (faBox f fa fc fe fec) := (Blk.newAt _ _ (by simp)).alloc _
  have k_x : Blk (((w.alloc (.cells #[.int .i64 c.N, .int .i64 c.Pi, .int .i64 c.E, .int .i64 c.G, .int .i64 c.F, .slice a c.P.length cap] 24)).alloc (.cells #[.int .i64 f.K, .int .i64 f.At, .int .i64 f.F, .int .i64 f.To, .slice fa f.A.length fc, .slice fe f.D.length fec] 27)).alloc (.cells #[.int .i64 y.K, .int .i64 y.R, .int .i64 y.S, .int .i64 y.P.K, .int .i64 y.P.V, .slice ya y.E.length yc] 32)) (w.heap.size + 1 + 1) 32 (frBox y ya yc) := Blk.newAt _ _ (by simp)
  go_enter Tryz.func3, Tryz.ntmps3
  go_wp2_with fail
  refine (known6_any _).mono ?_
  rintro e wn ⟨rfl, hb⟩
  replace hB := hB.trans (hb.mono hB.size)
  replace k_c := k_c.later hb
  replace k_f := k_f.later hb
  replace k_x := k_x.later hb
  clear hb
  have qC := k_c.at
  unfold confBox at qC
  have qF := k_f.at
  unfold faBox at qF
  have HFew := Lib.hid (fun W (h : RowA W fa f.A) => few6_any f fa fc fe fec W h hE.1)
  cases hfw : fewL f
  · rw [hfw] at HFew
    go_wp2_with fail
    refine (HFew.out _ (hA.later hB)).mono ?_
    rintro e wk ⟨rfl, hb⟩
    go_wp2
    go_ret
    exact ⟨rfl, hB.trans (hb.mono hB.size)⟩
  rw [hfw] at HFew
  clear hfw
  go_wp2_with fail
  refine (HFew.out _ (hA.later hB)).mono ?_
  rintro e wk ⟨rfl, hb⟩
  replace hB := hB.trans (hb.mono hB.size)
  replace k_c := k_c.later hb
  replace k_f := k_f.later hb
  replace k_x := k_x.later hb
  clear hb qC qF HFew
  have qC := k_c.at
  unfold confBox at qC
  go_wp2_with fail
  refine (make_any2 c a cap _ (hrow.later hB)).mono ?_
  rintro e wm ⟨da, dc, rfl, hrd, hfd, hcp, hb⟩
  replace hB := hB.trans (hb.mono hB.size)
  replace k_f := k_f.later hb
  replace k_x := k_x.later hb
  clear hb qC k_c hfd hcp hrd
  have hok := makeC_ok c
  generalize makeC c = d at *
  have hD : Blk (wm.alloc (.cells #[.int .i64 d.N, .int .i64 d.Pi, .int .i64 d.E, .int .i64 d.G, .int .i64 d.F, .slice da d.P.length dc] 24)) wm.heap.size 24 (confBox d da dc) := Blk.new wm _ _
  replace hB := hB.alloc hB.size (.cells #[.int .i64 d.N, .int .i64 d.Pi, .int .i64 d.E, .int .i64 d.G, .int .i64 d.F, .slice da d.P.length dc] 24)
  replace k_f := k_f.alloc (.cells #[.int .i64 d.N, .int .i64 d.Pi, .int .i64 d.E, .int .i64 d.G, .int .i64 d.F, .slice da d.P.length dc] 24)
  replace k_x := k_x.alloc (.cells #[.int .i64 d.N, .int .i64 d.Pi, .int .i64 d.E, .int .i64 d.G, .int .i64 d.F, .slice da d.P.length dc] 24)
  go_upto_region 6 with fail
  generalize wm.alloc (.cells #[.int .i64 d.N, .int .i64 d.Pi, .int .i64 d.E, .int .i64 d.G, .int .i64 d.F, .slice da d.P.length dc] 24) = wn at *
  generalize wm.heap.size = db at *
  have qD := hD.at
  unfold confBox at qD
  have qF := k_f.at
  unfold faBox at qF
  go_wp2_with fail
  refine (make6_any d da dc f fa fc fe fec _ hok (hA.later hB) (hE.later hB)).mono ?_
  rintro e wm ⟨ga, gc, ge, gec, rfl, hRA, hRD, hga, hge, hb⟩
  replace hB := hB.trans (hb.mono hB.size)
  replace hD := hD.later hb
  replace k_f := k_f.later hb
  replace k_x := k_x.later hb
  clear hb qD qF hga hge
  have hsm := makeL_small d f hok
  clear k_f
  generalize makeL d f = g at *
  have hG : Blk (wm.alloc (.cells #[.int .i64 g.K, .int .i64 g.At, .int .i64 g.F, .int .i64 g.To, .slice ga g.A.length gc, .slice ge g.D.length gec] 27)) wm.heap.size 27 (faBox g ga gc ge gec) := Blk.new wm _ _
  replace hB := hB.alloc hB.size (.cells #[.int .i64 g.K, .int .i64 g.At, .int .i64 g.F, .int .i64 g.To, .slice ga g.A.length gc, .slice ge g.D.length gec] 27)
  replace hD := hD.alloc (.cells #[.int .i64 g.K, .int .i64 g.At, .int .i64 g.F, .int .i64 g.To, .slice ga g.A.length gc, .slice ge g.D.length gec] 27)
  replace k_x := k_x.alloc (.cells #[.int .i64 g.K, .int .i64 g.At, .int .i64 g.F, .int .i64 g.To, .slice ga g.A.length gc, .slice ge g.D.length gec] 27)
  replace hRA := hRA.alloc (.cells #[.int .i64 g.K, .int .i64 g.At, .int .i64 g.F, .int .i64 g.To, .slice ga g.A.length gc, .slice ge g.D.length gec] 27)
  replace hRD := hRD.alloc (.cells #[.int .i64 g.K, .int .i64 g.At, .int .i64 g.F, .int .i64 g.To, .slice ga g.A.length gc, .slice ge g.D.length gec] 27)
  go_upto_region 7 with fail
  generalize wm.alloc (.cells #[.int .i64 g.K, .int .i64 g.At, .int .i64 g.F, .int .i64 g.To, .slice ga g.A.length gc, .slice ge g.D.length gec] 27) = wn at *
  generalize wm.heap.size = gb at *
  have n6 := hok.n6
  have n12 := hok.n12
  clear hRD
  have hsl : 6 ≤ slotsI d ∧ slotsI d ≤ 15 := by have := hok.len; unfold slotsI; omega
  have HS := Lib.hid (fun W => rslots_any d da dc W hok)
  have HW1 := Lib.hid (fun W => within6_any slot (slotsI d) W (by omega) (by omega))
  have HW2 := Lib.hid (fun W => within6_any frm d.N W (by omega) (by omega))
  have HW3 := Lib.hid (fun W => within6_any step 4 W (by omega) (by omega))
  have HW4 := Lib.hid (fun W => within6_any cut 3 W (by omega) (by omega))
  have s0 := Int.emod_nonneg slot (show slotsI d ≠ 0 by omega)
  have s1 := Int.emod_lt_of_pos slot (show 0 < slotsI d by omega)
  have i0 := Int.emod_nonneg frm (show d.N ≠ 0 by omega)
  have i1 := Int.emod_lt_of_pos frm (show 0 < d.N by omega)
  generalize slot % slotsI d = s at *
  generalize frm % d.N = i at *
  have qD := hD.at
  unfold confBox at qD
  have qG := hG.at
  unfold faBox at qG
  go_wp2_with fail
  refine (HS.out _).mono ?_
  rintro e wx ⟨rfl, hb⟩
  replace hB := hB.trans (hb.mono hB.size)
  replace hD := hD.later hb
  replace hG := hG.later hb
  replace hRA := hRA.later hb
  replace k_x := k_x.later hb
  clear hb qD qG HS
  have qD := hD.at
  unfold confBox at qD
  have qG := hG.at
  unfold faBox at qG
  go_wp2_with fail
  refine (HW1.out _).mono ?_
  rintro e wl ⟨rfl, rfl⟩
  go_wp2_with fail
  refine (HW2.out _).mono ?_
  rintro e wl ⟨rfl, rfl⟩
  obtain ⟨p, hp, hpm⟩ : ∃ p : Nat, step % 4 = (p : Int) ∧ p < 4 := ⟨(step % 4).toNat, by omega, by omega⟩
  rw [hp] at HW3
  clear hp HW1 HW2
  obtain ⟨st, hv, _, v0, v9⟩ := step_cell p hpm
  have k0 : (0 : Int) ≤ (p : Int) := by omega
  have k1 : (p : Int) < 4 := by omega
  have HAt := Lib.hid (fun W => rAt_any d.N i st W (by omega) (by omega) (by omega) (by omega) (by omega) (by omega))
  have j0 := Int.emod_nonneg (i + st) (show d.N ≠ 0 by omega)
  have j1 := Int.emod_lt_of_pos (i + st) (show 0 < d.N by omega)
  generalize (i + st) % d.N = j at *
  clear qD qG
  go_upto_region 9 with fail
  refine region_slots [some 46, some 47, some 48, some 49, some 50, some 51, some 52, some 53, some 54, some 23] [none, none, none, none, none, none, none, none, none, none] 155 10 rfl (by kernel_rfl) (by kernel_rfl) rfl rfl ?_
  apply step_fix
  · intro a W Zs hS hFm hz hd
    have h19 := hFm.old 19 rfl
    conv at h19 => rhs; whnf
    replace h19 := ev_get hFm.size h19
    refine .inl ⟨wanted_none rfl _, fun K hK => ?_⟩
    have HK := Lib.hid hK
    clear hd hFm hK
    go_simp
    exact HK.out _ _ rfl (Below.refl _ _)
  simp only [List.nil_append, List.cons_append]
  apply step_fix
  · intro a W Zs hS hFm hz hd
    have h46 := ev_get hFm.size (hd 0 46 rfl rfl)
    have hq := (hD.drew1.later hS).at
    unfold confBox at hq
    refine .inl ⟨wanted_none rfl _, fun K hK => ?_⟩
    have HK := Lib.hid hK
    clear hd hFm hK
    go_simp
    exact HK.out _ _ rfl (Below.refl _ _)
  simp only [List.nil_append, List.cons_append]
  apply step_fix
  · intro a W Zs hS hFm hz hd
    have h22 := hFm.old 22 rfl
    conv at h22 => rhs; whnf
    replace h22 := ev_get hFm.size h22
    refine .inl ⟨wanted_none rfl _, fun K hK => ?_⟩
    have HK := Lib.hid hK
    clear hd hFm hK
    go_simp
    exact HK.out _ _ rfl (Below.refl _ _)
  simp only [List.nil_append, List.cons_append]
  apply step_blk
  · intro a W Zs hS hFm hz hd
    refine .inl ⟨wanted_none rfl _, fun K hK => ?_⟩
    have HK := Lib.hid hK
    clear hd hFm hK
    go_simp
    exact HK.out _ _ ⟨_, rfl, Blk.new _ _ _, .inr (.inl ⟨Nat.le_refl _, by simp⟩)⟩ (alloc_below _ _)
  simp only [List.nil_append, List.cons_append]
  apply step_fix
  · intro a W Zs hS hFm hz hd
    have h5 := hFm.old 5 rfl
    conv at h5 => rhs; whnf
    replace h5 := ev_get hFm.size h5
    refine .inl ⟨wanted_none rfl _, fun K hK => ?_⟩
    have HK := Lib.hid hK
    clear hd hFm hK
    go_simp
    exact HK.out _ _ rfl (Below.refl _ _)
  simp only [List.nil_append, List.cons_append]
  apply step_fix
  · intro a W Zs hS hFm hz hd
    have h50 := ev_get hFm.size (hd 4 50 rfl rfl)
    refine .inl ⟨wanted_none rfl _, fun K hK => ?_⟩
    have HK := Lib.hid hK
    clear hd hFm hK
    go_simp
    refine (HW3.out _).mono ?_
    rintro e W' ⟨rfl, rfl⟩
    exact HK.out _ _ rfl (Below.refl _ _)
  simp only [List.nil_append, List.cons_append]
  apply step_ptr
  · intro a W Zs hS hFm hz hd
    obtain ⟨b49, e49, q49, f49⟩ := hd 3 49 rfl rfl
    have h49 := ev_get hFm.size e49
    have h51 := ev_get hFm.size (hd 5 51 rfl rfl)
    refine .inl ⟨wanted_none rfl _, fun K hK => ?_⟩
    have HK := Lib.hid hK
    clear hd hFm hK
    go_simp
    exact HK.out _ _ ⟨b49, rfl, q49, f49.imp id (foot_dep 3 rfl rfl rfl _)⟩ (Below.refl _ _)
  simp only [List.nil_append, List.cons_append]
  apply step_fix
  · intro a W Zs hS hFm hz hd
    obtain ⟨b52, e52, q52, f52⟩ := hd 6 52 rfl rfl
    have h52 := ev_get hFm.size e52
    have hq2 := (q52.at p).trans hv
    refine .inl ⟨wanted_none rfl _, fun K hK => ?_⟩
    have HK := Lib.hid hK
    clear hd hFm hK
    go_simp
    exact HK.out _ _ rfl (Below.refl _ _)
  simp only [List.nil_append, List.cons_append]
  apply step_fix
  · intro a W Zs hS hFm hz hd
    have h47 := ev_get hFm.size (hd 1 47 rfl rfl)
    have h48 := ev_get hFm.size (hd 2 48 rfl rfl)
    have h53 := ev_get hFm.size (hd 7 53 rfl rfl)
    refine .inl ⟨wanted_none rfl _, fun K hK => ?_⟩
    have HK := Lib.hid hK
    clear hd hFm hK
    go_simp
    refine (HAt.out _).mono ?_
    rintro e W' ⟨rfl, rfl⟩
    exact HK.out _ _ rfl (Below.refl _ _)
  simp only [List.nil_append, List.cons_append]
  apply step_fix
  · intro a W Zs hS hFm hz hd
    have h54 := ev_get hFm.size (hd 8 54 rfl rfl)
    refine .inl ⟨wanted_none rfl _, fun K hK => ?_⟩
    have HK := Lib.hid hK
    clear hd hFm hK
    go_simp
    exact HK.out _ _ rfl (Below.refl _ _)
  simp only [List.nil_append, List.cons_append]
  intro a w3 Zs hS hFm hz hd
  have e23 := hd 9 23 (by decide) rfl
  have e0 := hFm.old 0 rfl
  conv at e0 => rhs; whnf
  have e1 := hFm.old 1 rfl
  conv at e1 => rhs; whnf
  have e2 := hFm.old 2 rfl
  conv at e2 => rhs; whnf
  have e3 := hFm.old 3 rfl
  conv at e3 => rhs; whnf
  have e4 := hFm.old 4 rfl
  conv at e4 => rhs; whnf
  have e5 := hFm.old 5 rfl
  conv at e5 => rhs; whnf
  have e6 := hFm.old 6 rfl
  conv at e6 => rhs; whnf
  have e7 := hFm.old 7 rfl
  conv at e7 => rhs; whnf
  have e8 := hFm.old 8 rfl
  conv at e8 => rhs; whnf
  have e9 := hFm.old 9 rfl
  conv at e9 => rhs; whnf
  have e10 := hFm.old 10 rfl
  conv at e10 => rhs; whnf
  have e11 := hFm.old 11 rfl
  conv at e11 => rhs; whnf
  have e12 := hFm.old 12 rfl
  conv at e12 => rhs; whnf
  have e13 := hFm.old 13 rfl
  conv at e13 => rhs; whnf
  have e14 := hFm.old 14 rfl
  conv at e14 => rhs; whnf
  have e15 := hFm.old 15 rfl
  conv at e15 => rhs; whnf
  have e16 := hFm.old 16 rfl
  conv at e16 => rhs; whnf
  have e17 := hFm.old 17 rfl
  conv at e17 => rhs; whnf
  have e18 := hFm.old 18 rfl
  conv at e18 => rhs; whnf
  have e19 := hFm.old 19 rfl
  conv at e19 => rhs; whnf
  have e20 := hFm.old 20 rfl
  conv at e20 => rhs; whnf
  have e21 := hFm.old 21 rfl
  conv at e21 => rhs; whnf
  have e22 := hFm.old 22 rfl
  conv at e22 => rhs; whnf
  have e24 := hFm.old 24 rfl
  conv at e24 => rhs; whnf
  have e25 := hFm.old 25 rfl
  conv at e25 => rhs; whnf
  have e26 := hFm.old 26 rfl
  conv at e26 => rhs; whnf
  have e27 := hFm.old 27 rfl
  conv at e27 => rhs; whnf
  have e28 := hFm.old 28 rfl
  conv at e28 => rhs; whnf
  have e29 := hFm.old 29 rfl
  conv at e29 => rhs; whnf
  have e30 := hFm.old 30 rfl
  conv at e30 => rhs; whnf
  have e31 := hFm.old 31 rfl
  conv at e31 => rhs; whnf
  have e32 := hFm.old 32 rfl
  conv at e32 => rhs; whnf
  have e33 := hFm.old 33 rfl
  conv at e33 => rhs; whnf
  have e34 := hFm.old 34 rfl
  conv at e34 => rhs; whnf
  have e35 := hFm.old 35 rfl
  conv at e35 => rhs; whnf
  have e36 := hFm.old 36 rfl
  conv at e36 => rhs; whnf
  have e37 := hFm.old 37 rfl
  conv at e37 => rhs; whnf
  have e38 := hFm.old 38 rfl
  conv at e38 => rhs; whnf
  have e39 := hFm.old 39 rfl
  conv at e39 => rhs; whnf
  have e40 := hFm.old 40 rfl
  conv at e40 => rhs; whnf
  have e41 := hFm.old 41 rfl
  conv at e41 => rhs; whnf
  have e42 := hFm.old 42 rfl
  conv at e42 => rhs; whnf
  have e43 := hFm.old 43 rfl
  conv at e43 => rhs; whnf
  have e44 := hFm.old 44 rfl
  conv at e44 => rhs; whnf
  have e45 := hFm.old 45 rfl
  conv at e45 => rhs; whnf
  have e55 := hFm.old 55 rfl
  conv at e55 => rhs; whnf
  have e56 := hFm.old 56 rfl
  conv at e56 => rhs; whnf
  have e57 := hFm.old 57 rfl
  conv at e57 => rhs; whnf
  have e58 := hFm.old 58 rfl
  conv at e58 => rhs; whnf
  have e59 := hFm.old 59 rfl
  conv at e59 => rhs; whnf
  have e60 := hFm.old 60 rfl
  conv at e60 => rhs; whnf
  have e61 := hFm.old 61 rfl
  conv at e61 => rhs; whnf
  have e62 := hFm.old 62 rfl
  conv at e62 => rhs; whnf
  have e63 := hFm.old 63 rfl
  conv at e63 => rhs; whnf
  have e64 := hFm.old 64 rfl
  conv at e64 => rhs; whnf
  have e65 := hFm.old 65 rfl
  conv at e65 => rhs; whnf
  have e66 := hFm.old 66 rfl
  conv at e66 => rhs; whnf
  have e67 := hFm.old 67 rfl
  conv at e67 => rhs; whnf
  have e68 := hFm.old 68 rfl
  conv at e68 => rhs; whnf
  have e69 := hFm.old 69 rfl
  conv at e69 => rhs; whnf
  have e70 := hFm.old 70 rfl
  conv at e70 => rhs; whnf
  have e71 := hFm.old 71 rfl
  conv at e71 => rhs; whnf
  have e72 := hFm.old 72 rfl
  conv at e72 => rhs; whnf
  have e73 := hFm.old 73 rfl
  conv at e73 => rhs; whnf
  have e74 := hFm.old 74 rfl
  conv at e74 => rhs; whnf
  have e75 := hFm.old 75 rfl
  conv at e75 => rhs; whnf
  have e76 := hFm.old 76 rfl
  conv at e76 => rhs; whnf
  have e77 := hFm.old 77 rfl
  conv at e77 => rhs; whnf
  have e78 := hFm.old 78 rfl
  conv at e78 => rhs; whnf
  have e79 := hFm.old 79 rfl
  conv at e79 => rhs; whnf
  have e80 := hFm.old 80 rfl
  conv at e80 => rhs; whnf
  have e81 := hFm.old 81 rfl
  conv at e81 => rhs; whnf
  have e82 := hFm.old 82 rfl
  conv at e82 => rhs; whnf
  have e83 := hFm.old 83 rfl
  conv at e83 => rhs; whnf
  have e84 := hFm.old 84 rfl
  conv at e84 => rhs; whnf
  have e85 := hFm.old 85 rfl
  conv at e85 => rhs; whnf
  have e86 := hFm.old 86 rfl
  conv at e86 => rhs; whnf
  have e87 := hFm.old 87 rfl
  conv at e87 => rhs; whnf
  have e88 := hFm.old 88 rfl
  conv at e88 => rhs; whnf
  have e89 := hFm.old 89 rfl
  conv at e89 => rhs; whnf
  have e90 := hFm.old 90 rfl
  conv at e90 => rhs; whnf
  have e91 := hFm.old 91 rfl
  conv at e91 => rhs; whnf
  have e92 := hFm.old 92 rfl
  conv at e92 => rhs; whnf
  have e93 := hFm.old 93 rfl
  conv at e93 => rhs; whnf
  have e94 := hFm.old 94 rfl
  conv at e94 => rhs; whnf
  have e95 := hFm.old 95 rfl
  conv at e95 => rhs; whnf
  have e96 := hFm.old 96 rfl
  conv at e96 => rhs; whnf
  have e97 := hFm.old 97 rfl
  conv at e97 => rhs; whnf
  have e98 := hFm.old 98 rfl
  conv at e98 => rhs; whnf
  have e99 := hFm.old 99 rfl
  conv at e99 => rhs; whnf
  have e100 := hFm.old 100 rfl
  conv at e100 => rhs; whnf
  have e101 := hFm.old 101 rfl
  conv at e101 => rhs; whnf
  have e102 := hFm.old 102 rfl
  conv at e102 => rhs; whnf
  have e103 := hFm.old 103 rfl
  conv at e103 => rhs; whnf
  have e104 := hFm.old 104 rfl
  conv at e104 => rhs; whnf
  have e105 := hFm.old 105 rfl
  conv at e105 => rhs; whnf
  have e106 := hFm.old 106 rfl
  conv at e106 => rhs; whnf
  have e107 := hFm.old 107 rfl
  conv at e107 => rhs; whnf
  have e108 := hFm.old 108 rfl
  conv at e108 => rhs; whnf
  have e109 := hFm.old 109 rfl
  conv at e109 => rhs; whnf
  have e110 := hFm.old 110 rfl
  conv at e110 => rhs; whnf
  have e111 := hFm.old 111 rfl
  conv at e111 => rhs; whnf
  have e112 := hFm.old 112 rfl
  conv at e112 => rhs; whnf
  have e113 := hFm.old 113 rfl
  conv at e113 => rhs; whnf
  have e114 := hFm.old 114 rfl
  conv at e114 => rhs; whnf
  have e115 := hFm.old 115 rfl
  conv at e115 => rhs; whnf
  have e116 := hFm.old 116 rfl
  conv at e116 => rhs; whnf
  have e117 := hFm.old 117 rfl
  conv at e117 => rhs; whnf
  have e118 := hFm.old 118 rfl
  conv at e118 => rhs; whnf
  have e119 := hFm.old 119 rfl
  conv at e119 => rhs; whnf
  have e120 := hFm.old 120 rfl
  conv at e120 => rhs; whnf
  have e121 := hFm.old 121 rfl
  conv at e121 => rhs; whnf
  have e122 := hFm.old 122 rfl
  conv at e122 => rhs; whnf
  have e123 := hFm.old 123 rfl
  conv at e123 => rhs; whnf
  have e124 := hFm.old 124 rfl
  conv at e124 => rhs; whnf
  have e125 := hFm.old 125 rfl
  conv at e125 => rhs; whnf
  have e126 := hFm.old 126 rfl
  conv at e126 => rhs; whnf
  have e127 := hFm.old 127 rfl
  conv at e127 => rhs; whnf
  have e128 := hFm.old 128 rfl
  conv at e128 => rhs; whnf
  have e129 := hFm.old 129 rfl
  conv at e129 => rhs; whnf
  have e130 := hFm.old 130 rfl
  conv at e130 => rhs; whnf
  have e131 := hFm.old 131 rfl
  conv at e131 => rhs; whnf
  have e132 := hFm.old 132 rfl
  conv at e132 => rhs; whnf
  have e133 := hFm.old 133 rfl
  conv at e133 => rhs; whnf
  have e134 := hFm.old 134 rfl
  conv at e134 => rhs; whnf
  have e135 := hFm.old 135 rfl
  conv at e135 => rhs; whnf
  have e136 := hFm.old 136 rfl
  conv at e136 => rhs; whnf
  have e137 := hFm.old 137 rfl
  conv at e137 => rhs; whnf
  have e138 := hFm.old 138 rfl
  conv at e138 => rhs; whnf
  have e139 := hFm.old 139 rfl
  conv at e139 => rhs; whnf
  have e140 := hFm.old 140 rfl
  conv at e140 => rhs; whnf
  have e141 := hFm.old 141 rfl
  conv at e141 => rhs; whnf
  have e142 := hFm.old 142 rfl
  conv at e142 => rhs; whnf
  have e143 := hFm.old 143 rfl
  conv at e143 => rhs; whnf
  have e144 := hFm.old 144 rfl
  conv at e144 => rhs; whnf
  have e145 := hFm.old 145 rfl
  conv at e145 => rhs; whnf
  have e146 := hFm.old 146 rfl
  conv at e146 => rhs; whnf
  have e147 := hFm.old 147 rfl
  conv at e147 => rhs; whnf
  have e148 := hFm.old 148 rfl
  conv at e148 => rhs; whnf
  have e149 := hFm.old 149 rfl
  conv at e149 => rhs; whnf
  have e150 := hFm.old 150 rfl
  conv at e150 => rhs; whnf
  have e151 := hFm.old 151 rfl
  conv at e151 => rhs; whnf
  have e152 := hFm.old 152 rfl
  conv at e152 => rhs; whnf
  have e153 := hFm.old 153 rfl
  conv at e153 => rhs; whnf
  have e154 := hFm.old 154 rfl
  conv at e154 => rhs; whnf
  have hsz := hFm.size
  have hdf := hFm.defers
  clear hd hFm
  obtain ⟨t, df⟩ := a
  simp only at hsz hdf
  subst hdf
  obtain ⟨x, hx⟩ : ∃ x : Nat → Value, ∀ i, t.getD i undef = x i := ⟨fun i => t.getD i undef, fun _ => rfl⟩
  have h23 := (hx 23).symm.trans e23
  have h0 := (hx 0).symm.trans e0
  have h1 := (hx 1).symm.trans e1
  have h2 := (hx 2).symm.trans e2
  have h3 := (hx 3).symm.trans e3
  have h4 := (hx 4).symm.trans e4
  have h5 := (hx 5).symm.trans e5
  have h6 := (hx 6).symm.trans e6
  have h7 := (hx 7).symm.trans e7
  have h8 := (hx 8).symm.trans e8
  have h9 := (hx 9).symm.trans e9
  have h10 := (hx 10).symm.trans e10
  have h11 := (hx 11).symm.trans e11
  have h12 := (hx 12).symm.trans e12
  have h13 := (hx 13).symm.trans e13
  have h14 := (hx 14).symm.trans e14
  have h15 := (hx 15).symm.trans e15
  have h16 := (hx 16).symm.trans e16
  have h17 := (hx 17).symm.trans e17
  have h18 := (hx 18).symm.trans e18
  have h19 := (hx 19).symm.trans e19
  have h20 := (hx 20).symm.trans e20
  have h21 := (hx 21).symm.trans e21
  have h22 := (hx 22).symm.trans e22
  have h24 := (hx 24).symm.trans e24
  have h25 := (hx 25).symm.trans e25
  have h26 := (hx 26).symm.trans e26
  have h27 := (hx 27).symm.trans e27
  have h28 := (hx 28).symm.trans e28
  have h29 := (hx 29).symm.trans e29
  have h30 := (hx 30).symm.trans e30
  have h31 := (hx 31).symm.trans e31
  have h32 := (hx 32).symm.trans e32
  have h33 := (hx 33).symm.trans e33
  have h34 := (hx 34).symm.trans e34
  have h35 := (hx 35).symm.trans e35
  have h36 := (hx 36).symm.trans e36
  have h37 := (hx 37).symm.trans e37
  have h38 := (hx 38).symm.trans e38
  have h39 := (hx 39).symm.trans e39
  have h40 := (hx 40).symm.trans e40
  have h41 := (hx 41).symm.trans e41
  have h42 := (hx 42).symm.trans e42
  have h43 := (hx 43).symm.trans e43
  have h44 := (hx 44).symm.trans e44
  have h45 := (hx 45).symm.trans e45
  have h55 := (hx 55).symm.trans e55
  have h56 := (hx 56).symm.trans e56
  have h57 := (hx 57).symm.trans e57
  have h58 := (hx 58).symm.trans e58
  have h59 := (hx 59).symm.trans e59
  have h60 := (hx 60).symm.trans e60
  have h61 := (hx 61).symm.trans e61
  have h62 := (hx 62).symm.trans e62
  have h63 := (hx 63).symm.trans e63
  have h64 := (hx 64).symm.trans e64
  have h65 := (hx 65).symm.trans e65
  have h66 := (hx 66).symm.trans e66
  have h67 := (hx 67).symm.trans e67
  have h68 := (hx 68).symm.trans e68
  have h69 := (hx 69).symm.trans e69
  have h70 := (hx 70).symm.trans e70
  have h71 := (hx 71).symm.trans e71
  have h72 := (hx 72).symm.trans e72
  have h73 := (hx 73).symm.trans e73
  have h74 := (hx 74).symm.trans e74
  have h75 := (hx 75).symm.trans e75
  have h76 := (hx 76).symm.trans e76
  have h77 := (hx 77).symm.trans e77
  have h78 := (hx 78).symm.trans e78
  have h79 := (hx 79).symm.trans e79
  have h80 := (hx 80).symm.trans e80
  have h81 := (hx 81).symm.trans e81
  have h82 := (hx 82).symm.trans e82
  have h83 := (hx 83).symm.trans e83
  have h84 := (hx 84).symm.trans e84
  have h85 := (hx 85).symm.trans e85
  have h86 := (hx 86).symm.trans e86
  have h87 := (hx 87).symm.trans e87
  have h88 := (hx 88).symm.trans e88
  have h89 := (hx 89).symm.trans e89
  have h90 := (hx 90).symm.trans e90
  have h91 := (hx 91).symm.trans e91
  have h92 := (hx 92).symm.trans e92
  have h93 := (hx 93).symm.trans e93
  have h94 := (hx 94).symm.trans e94
  have h95 := (hx 95).symm.trans e95
  have h96 := (hx 96).symm.trans e96
  have h97 := (hx 97).symm.trans e97
  have h98 := (hx 98).symm.trans e98
  have h99 := (hx 99).symm.trans e99
  have h100 := (hx 100).symm.trans e100
  have h101 := (hx 101).symm.trans e101
  have h102 := (hx 102).symm.trans e102
  have h103 := (hx 103).symm.trans e103
  have h104 := (hx 104).symm.trans e104
  have h105 := (hx 105).symm.trans e105
  have h106 := (hx 106).symm.trans e106
  have h107 := (hx 107).symm.trans e107
  have h108 := (hx 108).symm.trans e108
  have h109 := (hx 109).symm.trans e109
  have h110 := (hx 110).symm.trans e110
  have h111 := (hx 111).symm.trans e111
  have h112 := (hx 112).symm.trans e112
  have h113 := (hx 113).symm.trans e113
  have h114 := (hx 114).symm.trans e114
  have h115 := (hx 115).symm.trans e115
  have h116 := (hx 116).symm.trans e116
  have h117 := (hx 117).symm.trans e117
  have h118 := (hx 118).symm.trans e118
  have h119 := (hx 119).symm.trans e119
  have h120 := (hx 120).symm.trans e120
  have h121 := (hx 121).symm.trans e121
  have h122 := (hx 122).symm.trans e122
  have h123 := (hx 123).symm.trans e123
  have h124 := (hx 124).symm.trans e124
  have h125 := (hx 125).symm.trans e125
  have h126 := (hx 126).symm.trans e126
  have h127 := (hx 127).symm.trans e127
  have h128 := (hx 128).symm.trans e128
  have h129 := (hx 129).symm.trans e129
  have h130 := (hx 130).symm.trans e130
  have h131 := (hx 131).symm.trans e131
  have h132 := (hx 132).symm.trans e132
  have h133 := (hx 133).symm.trans e133
  have h134 := (hx 134).symm.trans e134
  have h135 := (hx 135).symm.trans e135
  have h136 := (hx 136).symm.trans e136
  have h137 := (hx 137).symm.trans e137
  have h138 := (hx 138).symm.trans e138
  have h139 := (hx 139).symm.trans e139
  have h140 := (hx 140).symm.trans e140
  have h141 := (hx 141).symm.trans e141
  have h142 := (hx 142).symm.trans e142
  have h143 := (hx 143).symm.trans e143
  have h144 := (hx 144).symm.trans e144
  have h145 := (hx 145).symm.trans e145
  have h146 := (hx 146).symm.trans e146
  have h147 := (hx 147).symm.trans e147
  have h148 := (hx 148).symm.trans e148
  have h149 := (hx 149).symm.trans e149
  have h150 := (hx 150).symm.trans e150
  have h151 := (hx 151).symm.trans e151
  have h152 := (hx 152).symm.trans e152
  have h153 := (hx 153).symm.trans e153
  have h154 := (hx 154).symm.trans e154
  have ht' : t = #[x 0, x 1, x 2, x 3, x 4, x 5, x 6, x 7, x 8, x 9, x 10, x 11, x 12, x 13, x 14, x 15, x 16, x 17, x 18, x 19, x 20, x 21, x 22, x 23, x 24, x 25, x 26, x 27, x 28, x 29, x 30, x 31, x 32, x 33, x 34, x 35, x 36, x 37, x 38, x 39, x 40, x 41, x 42, x 43, x 44, x 45, x 46, x 47, x 48, x 49, x 50, x 51, x 52, x 53, x 54, x 55, x 56, x 57, x 58, x 59, x 60, x 61, x 62, x 63, x 64, x 65, x 66, x 67, x 68, x 69, x 70, x 71, x 72, x 73, x 74, x 75, x 76, x 77, x 78, x 79, x 80, x 81, x 82, x 83, x 84, x 85, x 86, x 87, x 88, x 89, x 90, x 91, x 92, x 93, x 94, x 95, x 96, x 97, x 98, x 99, x 100, x 101, x 102, x 103, x 104, x 105, x 106, x 107, x 108, x 109, x 110, x 111, x 112, x 113, x 114, x 115, x 116, x 117, x 118, x 119, x 120, x 121, x 122, x 123, x 124, x 125, x 126, x 127, x 128, x 129, x 130, x 131, x 132, x 133, x 134, x 135, x 136, x 137, x 138, x 139, x 140, x 141, x 142, x 143, x 144, x 145, x 146, x 147, x 148, x 149, x 150, x 151, x 152, x 153, x 154] := frame_lit t 155 hsz x hx
  clear hx hsz hz e23 e0 e1 e2 e3 e4 e5 e6 e7 e8 e9 e10 e11 e12 e13 e14 e15 e16 e17 e18 e19 e20 e21 e22 e24 e25 e26 e27 e28 e29 e30 e31 e32 e33 e34 e35 e36 e37 e38 e39 e40 e41 e42 e43 e44 e45 e55 e56 e57 e58 e59 e60 e61 e62 e63 e64 e65 e66 e67 e68 e69 e70 e71 e72 e73 e74 e75 e76 e77 e78 e79 e80 e81 e82 e83 e84 e85 e86 e87 e88 e89 e90 e91 e92 e93 e94 e95 e96 e97 e98 e99 e100 e101 e102 e103 e104 e105 e106 e107 e108 e109 e110 e111 e112 e113 e114 e115 e116 e117 e118 e119 e120 e121 e122 e123 e124 e125 e126 e127 e128 e129 e130 e131 e132 e133 e134 e135 e136 e137 e138 e139 e140 e141 e142 e143 e144 e145 e146 e147 e148 e149 e150 e151 e152 e153 e154
  subst ht'
  dsimp only
  rw [h23, h0, h1, h2, h3, h4, h5, h6, h7, h8, h9, h10, h11, h12, h13, h14, h15, h16, h17, h18, h19, h20, h21, h22, h24, h25, h26, h27, h28, h29, h30, h31, h32, h33, h34, h35, h36, h37, h38, h39, h40, h41, h42, h43, h44, h45, h55, h56, h57, h58, h59, h60, h61, h62, h63, h64, h65, h66, h67, h68, h69, h70, h71, h72, h73, h74, h75, h76, h77, h78, h79, h80, h81, h82, h83, h84, h85, h86, h87, h88, h89, h90, h91, h92, h93, h94, h95, h96, h97, h98, h99, h100, h101, h102, h103, h104, h105, h106, h107, h108, h109, h110, h111, h112, h113, h114, h115, h116, h117, h118, h119, h120, h121, h122, h123, h124, h125, h126, h127, h128, h129, h130, h131, h132, h133, h134, h135, h136, h137, h138, h139, h140, h141, h142, h143, h144, h145, h146, h147, h148, h149, h150, h151, h152, h153, h154]
  clear h23 h0 h1 h2 h3 h4 h5 h6 h7 h8 h9 h10 h11 h12 h13 h14 h15 h16 h17 h18 h19 h20 h21 h22 h24 h25 h26 h27 h28 h29 h30 h31 h32 h33 h34 h35 h36 h37 h38 h39 h40 h41 h42 h43 h44 h45 h55 h56 h57 h58 h59 h60 h61 h62 h63 h64 h65 h66 h67 h68 h69 h70 h71 h72 h73 h74 h75 h76 h77 h78 h79 h80 h81 h82 h83 h84 h85 h86 h87 h88 h89 h90 h91 h92 h93 h94 h95 h96 h97 h98 h99 h100 h101 h102 h103 h104 h105 h106 h107 h108 h109 h110 h111 h112 h113 h114 h115 h116 h117 h118 h119 h120 h121 h122 h123 h124 h125 h126 h127 h128 h129 h130 h131 h132 h133 h134 h135 h136 h137 h138 h139 h140 h141 h142 h143 h144 h145 h146 h147 h148 h149 h150 h151 h152 h153 h154
  have hb := from_drew hS
  replace hB := hB.trans (hb.mono hB.size)
  replace hD := hD.later hb
  replace hG := hG.later hb
  replace hRA := hRA.later hb
  replace k_x := k_x.later hb
  clear hS hb HW3 HAt hv
  go_upto_region 10 with fail
  have qD := hD.at
  unfold confBox at qD
  have qG := hG.at
  unfold faBox at qG
  go_cut [62] (fun s62 wx => (∃ b : Bool, s62 = .bool b ∧ (b = true → g.K = 2)) ∧ wx = w3)
  case first =>
    cases e1 : (cut % 3 == 0)
    ·
      go_wp2_with fail
      refine (HW4.out _).mono ?_
      rintro e wl ⟨rfl, rfl⟩
      go_wp2_with fail
      go_meet
      exact ⟨⟨false, rfl, fun h => by cases h⟩, rfl⟩
    ·
      go_wp2_with fail
      refine (HW4.out _).mono ?_
      rintro e wl ⟨rfl, rfl⟩
      go_wp2_with fail
      go_meet
      exact ⟨⟨_, rfl, fun h => by simpa using h⟩, rfl⟩
  case rest =>
    obtain ⟨⟨b, rfl, hbK⟩, rfl⟩ := hcut
    clear qD qG HW4
    have qD := hD.at
    unfold confBox at qD
    have qG := hG.at
    unfold faBox at qG
    go_upto_if 62 with fail
    go_cut [22, 23] (fun s22 s23 wx => ∃ (i j : Int), s22 = .int .i64 i ∧ s23 = .int .i64 j ∧ (0 ≤ i ∧ i < d.N ∧ 0 ≤ j ∧ j < d.N) ∧ Below w.heap.size w wx ∧ Blk wx db 24 (confBox d da dc) ∧ Blk wx gb 27 (faBox g ga gc ge gec) ∧ RowA wx ga g.A ∧ Blk wx (w.heap.size + 1 + 1) 32 (frBox y ya yc))
    case first =>
      cases b
      · go_wp2_with fail
        go_meet
        exact ⟨i, j, rfl, rfl, ⟨i0, i1, j0, j1⟩, hB, hD, hG, hRA, k_x⟩
      · have hK := hbK rfl
        have a0 := hsm.ok.a0
        have a1 := hsm.ok.a1
        unfold placesI at a1
        rw [hK] at a1
        simp at a1
        have he := ends_in d.N g.At (by omega) a0 a1
        go_wp2_with fail
        refine (rEnds_any d.N g.At _ (by omega) (by omega) (by omega) (by omega)).mono ?_
        rintro e wy ⟨rfl, hb⟩
        replace hB := hB.trans (hb.mono hB.size)
        replace hD := hD.later hb
        replace hG := hG.later hb
        replace hRA := hRA.later hb
        replace k_x := k_x.later hb
        go_wp2_with fail
        go_meet
        exact ⟨_, _, rfl, rfl, he, hB, hD, hG, hRA, k_x⟩
    case rest =>
      clear hB hD hG hRA k_x qD qG i0 i1 j0 j1 hbK
      obtain ⟨i, j, rfl, rfl, ⟨i0, i1, j0, j1⟩, hB, hD, hG, hRA, k_x⟩ := hcut
      go_upto_region 12 with fail
      have hokg := makeF_ok d y ns hok
      have hnw := hns.later hB
      have hl15 := (ok_small hok hokg).2.2.2.2.2
      refine region_slots [some 71, some 72, some 73, some 74, some 75, some 76, some 24] [none, none, none, none, none, none, none] 155 7 rfl (by kernel_rfl) (by kernel_rfl) rfl rfl ?_
      apply step_fix
      · intro a W Zs hS hFm hz hd
        have h19 := hFm.old 19 rfl
        conv at h19 => rhs; whnf
        replace h19 := ev_get hFm.size h19
        have hq := (hD.drew1.later hS).at
        unfold confBox at hq
        refine .inl ⟨wanted_none rfl _, fun K hK => ?_⟩
        have HK := Lib.hid hK
        clear hd hFm hK
        go_simp
        exact HK.out _ _ rfl (Below.refl _ _)
      simp only [List.nil_append, List.cons_append]
      apply step_fix
      · intro a W Zs hS hFm hz hd
        have h19 := hFm.old 19 rfl
        conv at h19 => rhs; whnf
        replace h19 := ev_get hFm.size h19
        have hq := (hD.drew1.later hS).at
        unfold confBox at hq
        refine .inl ⟨wanted_none rfl _, fun K hK => ?_⟩
        have HK := Lib.hid hK
        clear hd hFm hK
        go_simp
        exact HK.out _ _ rfl (Below.refl _ _)
      simp only [List.nil_append, List.cons_append]
      apply step_fix
      · intro a W Zs hS hFm hz hd
        have h15 := hFm.old 15 rfl
        conv at h15 => rhs; whnf
        replace h15 := ev_get hFm.size h15
        have hq := (k_x.drew1.later hS).at
        unfold frBox at hq
        refine .inl ⟨wanted_none rfl _, fun K hK => ?_⟩
        have HK := Lib.hid hK
        clear hd hFm hK
        go_simp
        exact HK.out _ _ rfl (Below.refl _ _)
      simp only [List.nil_append, List.cons_append]
      apply step_fix
      · intro a W Zs hS hFm hz hd
        have h7 := hFm.old 7 rfl
        conv at h7 => rhs; whnf
        replace h7 := ev_get hFm.size h7
        refine .inl ⟨wanted_none rfl _, fun K hK => ?_⟩
        have HK := Lib.hid hK
        clear hd hFm hK
        go_simp
        exact HK.out _ _ rfl (Below.refl _ _)
      simp only [List.nil_append, List.cons_append]
      refine step_of (frF _ ((makeF d y ns))) (frF_good _ _) ?_ ?_
      · intro a W Zs hS hFm hz hd
        have h72 := ev_get hFm.size (hd 1 72 rfl rfl)
        have h73 := ev_get hFm.size (hd 2 73 rfl rfl)
        have h74 := ev_get hFm.size (hd 3 74 rfl rfl)
        refine .inl ⟨wanted_none rfl _, fun K hK => ?_⟩
        have HK := Lib.hid hK
        clear hd hFm hK
        go_simp
        refine (make5_any d da dc y ya yc na ns nc _ hok (hnw.drew1.later hS) iK iR iS iV).mono ?_
        rintro e W' ⟨ra, rc, rfl, hr, hfr, hb⟩
        exact HK.out _ _ ⟨ra, rc, rfl, hr, hr.foot hfr⟩ hb
      simp only [List.nil_append, List.cons_append]
      apply step_fix
      · intro a W Zs hS hFm hz hd
        have h71 := ev_get hFm.size (hd 0 71 rfl rfl)
        obtain ⟨a75, c75, e75, r75, f75⟩ := hd 4 75 rfl rfl
        have h75 := ev_get hFm.size e75
        refine .inl ⟨wanted_none rfl _, fun K hK => ?_⟩
        have HK := Lib.hid hK
        clear hd hFm hK
        go_simp
        refine (rText_ok d da dc (makeF d y ns) a75 c75 _ hok hokg r75).mono ?_
        rintro e W' ⟨rfl, hb⟩
        exact HK.out _ _ rfl hb
      simp only [List.nil_append, List.cons_append]
      apply step_fix
      · intro a W Zs hS hFm hz hd
        have h76 := ev_get hFm.size (hd 5 76 rfl rfl)
        refine .inl ⟨wanted_none rfl _, fun K hK => ?_⟩
        have HK := Lib.hid hK
        clear hd hFm hK
        go_simp
        exact HK.out _ _ rfl (Below.refl _ _)
      simp only [List.nil_append, List.cons_append]
      intro a w5 Zs hS hFm hz hd
      have e24 := hd 6 24 (by decide) rfl
      have e0 := hFm.old 0 rfl
      conv at e0 => rhs; whnf
      have e1 := hFm.old 1 rfl
      conv at e1 => rhs; whnf
      have e2 := hFm.old 2 rfl
      conv at e2 => rhs; whnf
      have e3 := hFm.old 3 rfl
      conv at e3 => rhs; whnf
      have e4 := hFm.old 4 rfl
      conv at e4 => rhs; whnf
      have e5 := hFm.old 5 rfl
      conv at e5 => rhs; whnf
      have e6 := hFm.old 6 rfl
      conv at e6 => rhs; whnf
      have e7 := hFm.old 7 rfl
      conv at e7 => rhs; whnf
      have e8 := hFm.old 8 rfl
      conv at e8 => rhs; whnf
      have e9 := hFm.old 9 rfl
      conv at e9 => rhs; whnf
      have e10 := hFm.old 10 rfl
      conv at e10 => rhs; whnf
      have e11 := hFm.old 11 rfl
      conv at e11 => rhs; whnf
      have e12 := hFm.old 12 rfl
      conv at e12 => rhs; whnf
      have e13 := hFm.old 13 rfl
      conv at e13 => rhs; whnf
      have e14 := hFm.old 14 rfl
      conv at e14 => rhs; whnf
      have e15 := hFm.old 15 rfl
      conv at e15 => rhs; whnf
      have e16 := hFm.old 16 rfl
      conv at e16 => rhs; whnf
      have e17 := hFm.old 17 rfl
      conv at e17 => rhs; whnf
      have e18 := hFm.old 18 rfl
      conv at e18 => rhs; whnf
      have e19 := hFm.old 19 rfl
      conv at e19 => rhs; whnf
      have e20 := hFm.old 20 rfl
      conv at e20 => rhs; whnf
      have e21 := hFm.old 21 rfl
      conv at e21 => rhs; whnf
      have e22 := hFm.old 22 rfl
      conv at e22 => rhs; whnf
      have e23 := hFm.old 23 rfl
      conv at e23 => rhs; whnf
      have e25 := hFm.old 25 rfl
      conv at e25 => rhs; whnf
      have e26 := hFm.old 26 rfl
      conv at e26 => rhs; whnf
      have e27 := hFm.old 27 rfl
      conv at e27 => rhs; whnf
      have e28 := hFm.old 28 rfl
      conv at e28 => rhs; whnf
      have e29 := hFm.old 29 rfl
      conv at e29 => rhs; whnf
      have e30 := hFm.old 30 rfl
      conv at e30 => rhs; whnf
      have e31 := hFm.old 31 rfl
      conv at e31 => rhs; whnf
      have e32 := hFm.old 32 rfl
      conv at e32 => rhs; whnf
      have e33 := hFm.old 33 rfl
      conv at e33 => rhs; whnf
      have e34 := hFm.old 34 rfl
      conv at e34 => rhs; whnf
      have e35 := hFm.old 35 rfl
      conv at e35 => rhs; whnf
      have e36 := hFm.old 36 rfl
      conv at e36 => rhs; whnf
      have e37 := hFm.old 37 rfl
      conv at e37 => rhs; whnf
      have e38 := hFm.old 38 rfl
      conv at e38 => rhs; whnf
      have e39 := hFm.old 39 rfl
      conv at e39 => rhs; whnf
      have e40 := hFm.old 40 rfl
      conv at e40 => rhs; whnf
      have e41 := hFm.old 41 rfl
      conv at e41 => rhs; whnf
      have e42 := hFm.old 42 rfl
      conv at e42 => rhs; whnf
      have e43 := hFm.old 43 rfl
      conv at e43 => rhs; whnf
      have e44 := hFm.old 44 rfl
      conv at e44 => rhs; whnf
      have e45 := hFm.old 45 rfl
      conv at e45 => rhs; whnf
      have e46 := hFm.old 46 rfl
      conv at e46 => rhs; whnf
      have e47 := hFm.old 47 rfl
      conv at e47 => rhs; whnf
      have e48 := hFm.old 48 rfl
      conv at e48 => rhs; whnf
      have e49 := hFm.old 49 rfl
      conv at e49 => rhs; whnf
      have e50 := hFm.old 50 rfl
      conv at e50 => rhs; whnf
      have e51 := hFm.old 51 rfl
      conv at e51 => rhs; whnf
      have e52 := hFm.old 52 rfl
      conv at e52 => rhs; whnf
      have e53 := hFm.old 53 rfl
      conv at e53 => rhs; whnf
      have e54 := hFm.old 54 rfl
      conv at e54 => rhs; whnf
      have e55 := hFm.old 55 rfl
      conv at e55 => rhs; whnf
      have e56 := hFm.old 56 rfl
      conv at e56 => rhs; whnf
      have e57 := hFm.old 57 rfl
      conv at e57 => rhs; whnf
      have e58 := hFm.old 58 rfl
      conv at e58 => rhs; whnf
      have e59 := hFm.old 59 rfl
      conv at e59 => rhs; whnf
      have e60 := hFm.old 60 rfl
      conv at e60 => rhs; whnf
      have e61 := hFm.old 61 rfl
      conv at e61 => rhs; whnf
      have e62 := hFm.old 62 rfl
      conv at e62 => rhs; whnf
      have e63 := hFm.old 63 rfl
      conv at e63 => rhs; whnf
      have e64 := hFm.old 64 rfl
      conv at e64 => rhs; whnf
      have e65 := hFm.old 65 rfl
      conv at e65 => rhs; whnf
      have e66 := hFm.old 66 rfl
      conv at e66 => rhs; whnf
      have e67 := hFm.old 67 rfl
      conv at e67 => rhs; whnf
      have e68 := hFm.old 68 rfl
      conv at e68 => rhs; whnf
      have e69 := hFm.old 69 rfl
      conv at e69 => rhs; whnf
      have e70 := hFm.old 70 rfl
      conv at e70 => rhs; whnf
      have e77 := hFm.old 77 rfl
      conv at e77 => rhs; whnf
      have e78 := hFm.old 78 rfl
      conv at e78 => rhs; whnf
      have e79 := hFm.old 79 rfl
      conv at e79 => rhs; whnf
      have e80 := hFm.old 80 rfl
      conv at e80 => rhs; whnf
      have e81 := hFm.old 81 rfl
      conv at e81 => rhs; whnf
      have e82 := hFm.old 82 rfl
      conv at e82 => rhs; whnf
      have e83 := hFm.old 83 rfl
      conv at e83 => rhs; whnf
      have e84 := hFm.old 84 rfl
      conv at e84 => rhs; whnf
      have e85 := hFm.old 85 rfl
      conv at e85 => rhs; whnf
      have e86 := hFm.old 86 rfl
      conv at e86 => rhs; whnf
      have e87 := hFm.old 87 rfl
      conv at e87 => rhs; whnf
      have e88 := hFm.old 88 rfl
      conv at e88 => rhs; whnf
      have e89 := hFm.old 89 rfl
      conv at e89 => rhs; whnf
      have e90 := hFm.old 90 rfl
      conv at e90 => rhs; whnf
      have e91 := hFm.old 91 rfl
      conv at e91 => rhs; whnf
      have e92 := hFm.old 92 rfl
      conv at e92 => rhs; whnf
      have e93 := hFm.old 93 rfl
      conv at e93 => rhs; whnf
      have e94 := hFm.old 94 rfl
      conv at e94 => rhs; whnf
      have e95 := hFm.old 95 rfl
      conv at e95 => rhs; whnf
      have e96 := hFm.old 96 rfl
      conv at e96 => rhs; whnf
      have e97 := hFm.old 97 rfl
      conv at e97 => rhs; whnf
      have e98 := hFm.old 98 rfl
      conv at e98 => rhs; whnf
      have e99 := hFm.old 99 rfl
      conv at e99 => rhs; whnf
      have e100 := hFm.old 100 rfl
      conv at e100 => rhs; whnf
      have e101 := hFm.old 101 rfl
      conv at e101 => rhs; whnf
      have e102 := hFm.old 102 rfl
      conv at e102 => rhs; whnf
      have e103 := hFm.old 103 rfl
      conv at e103 => rhs; whnf
      have e104 := hFm.old 104 rfl
      conv at e104 => rhs; whnf
      have e105 := hFm.old 105 rfl
      conv at e105 => rhs; whnf
      have e106 := hFm.old 106 rfl
      conv at e106 => rhs; whnf
      have e107 := hFm.old 107 rfl
      conv at e107 => rhs; whnf
      have e108 := hFm.old 108 rfl
      conv at e108 => rhs; whnf
      have e109 := hFm.old 109 rfl
      conv at e109 => rhs; whnf
      have e110 := hFm.old 110 rfl
      conv at e110 => rhs; whnf
      have e111 := hFm.old 111 rfl
      conv at e111 => rhs; whnf
      have e112 := hFm.old 112 rfl
      conv at e112 => rhs; whnf
      have e113 := hFm.old 113 rfl
      conv at e113 => rhs; whnf
      have e114 := hFm.old 114 rfl
      conv at e114 => rhs; whnf
      have e115 := hFm.old 115 rfl
      conv at e115 => rhs; whnf
      have e116 := hFm.old 116 rfl
      conv at e116 => rhs; whnf
      have e117 := hFm.old 117 rfl
      conv at e117 => rhs; whnf
      have e118 := hFm.old 118 rfl
      conv at e118 => rhs; whnf
      have e119 := hFm.old 119 rfl
      conv at e119 => rhs; whnf
      have e120 := hFm.old 120 rfl
      conv at e120 => rhs; whnf
      have e121 := hFm.old 121 rfl
      conv at e121 => rhs; whnf
      have e122 := hFm.old 122 rfl
      conv at e122 => rhs; whnf
      have e123 := hFm.old 123 rfl
      conv at e123 => rhs; whnf
      have e124 := hFm.old 124 rfl
      conv at e124 => rhs; whnf
      have e125 := hFm.old 125 rfl
      conv at e125 => rhs; whnf
      have e126 := hFm.old 126 rfl
      conv at e126 => rhs; whnf
      have e127 := hFm.old 127 rfl
      conv at e127 => rhs; whnf
      have e128 := hFm.old 128 rfl
      conv at e128 => rhs; whnf
      have e129 := hFm.old 129 rfl
      conv at e129 => rhs; whnf
      have e130 := hFm.old 130 rfl
      conv at e130 => rhs; whnf
      have e131 := hFm.old 131 rfl
      conv at e131 => rhs; whnf
      have e132 := hFm.old 132 rfl
      conv at e132 => rhs; whnf
      have e133 := hFm.old 133 rfl
      conv at e133 => rhs; whnf
      have e134 := hFm.old 134 rfl
      conv at e134 => rhs; whnf
      have e135 := hFm.old 135 rfl
      conv at e135 => rhs; whnf
      have e136 := hFm.old 136 rfl
      conv at e136 => rhs; whnf
      have e137 := hFm.old 137 rfl
      conv at e137 => rhs; whnf
      have e138 := hFm.old 138 rfl
      conv at e138 => rhs; whnf
      have e139 := hFm.old 139 rfl
      conv at e139 => rhs; whnf
      have e140 := hFm.old 140 rfl
      conv at e140 => rhs; whnf
      have e141 := hFm.old 141 rfl
      conv at e141 => rhs; whnf
      have e142 := hFm.old 142 rfl
      conv at e142 => rhs; whnf
      have e143 := hFm.old 143 rfl
      conv at e143 => rhs; whnf
      have e144 := hFm.old 144 rfl
      conv at e144 => rhs; whnf
      have e145 := hFm.old 145 rfl
      conv at e145 => rhs; whnf
      have e146 := hFm.old 146 rfl
      conv at e146 => rhs; whnf
      have e147 := hFm.old 147 rfl
      conv at e147 => rhs; whnf
      have e148 := hFm.old 148 rfl
      conv at e148 => rhs; whnf
      have e149 := hFm.old 149 rfl
      conv at e149 => rhs; whnf
      have e150 := hFm.old 150 rfl
      conv at e150 => rhs; whnf
      have e151 := hFm.old 151 rfl
      conv at e151 => rhs; whnf
      have e152 := hFm.old 152 rfl
      conv at e152 => rhs; whnf
      have e153 := hFm.old 153 rfl
      conv at e153 => rhs; whnf
      have e154 := hFm.old 154 rfl
      conv at e154 => rhs; whnf
      have hsz := hFm.size
      have hdf := hFm.defers
      clear hd hFm
      obtain ⟨t, df⟩ := a
      simp only at hsz hdf
      subst hdf
      obtain ⟨x, hx⟩ : ∃ x : Nat → Value, ∀ i, t.getD i undef = x i := ⟨fun i => t.getD i undef, fun _ => rfl⟩
      have h24 := (hx 24).symm.trans e24
      have h0 := (hx 0).symm.trans e0
      have h1 := (hx 1).symm.trans e1
      have h2 := (hx 2).symm.trans e2
      have h3 := (hx 3).symm.trans e3
      have h4 := (hx 4).symm.trans e4
      have h5 := (hx 5).symm.trans e5
      have h6 := (hx 6).symm.trans e6
      have h7 := (hx 7).symm.trans e7
      have h8 := (hx 8).symm.trans e8
      have h9 := (hx 9).symm.trans e9
      have h10 := (hx 10).symm.trans e10
      have h11 := (hx 11).symm.trans e11
      have h12 := (hx 12).symm.trans e12
      have h13 := (hx 13).symm.trans e13
      have h14 := (hx 14).symm.trans e14
      have h15 := (hx 15).symm.trans e15
      have h16 := (hx 16).symm.trans e16
      have h17 := (hx 17).symm.trans e17
      have h18 := (hx 18).symm.trans e18
      have h19 := (hx 19).symm.trans e19
      have h20 := (hx 20).symm.trans e20
      have h21 := (hx 21).symm.trans e21
      have h22 := (hx 22).symm.trans e22
      have h23 := (hx 23).symm.trans e23
      have h25 := (hx 25).symm.trans e25
      have h26 := (hx 26).symm.trans e26
      have h27 := (hx 27).symm.trans e27
      have h28 := (hx 28).symm.trans e28
      have h29 := (hx 29).symm.trans e29
      have h30 := (hx 30).symm.trans e30
      have h31 := (hx 31).symm.trans e31
      have h32 := (hx 32).symm.trans e32
      have h33 := (hx 33).symm.trans e33
      have h34 := (hx 34).symm.trans e34
      have h35 := (hx 35).symm.trans e35
      have h36 := (hx 36).symm.trans e36
      have h37 := (hx 37).symm.trans e37
      have h38 := (hx 38).symm.trans e38
      have h39 := (hx 39).symm.trans e39
      have h40 := (hx 40).symm.trans e40
      have h41 := (hx 41).symm.trans e41
      have h42 := (hx 42).symm.trans e42
      have h43 := (hx 43).symm.trans e43
      have h44 := (hx 44).symm.trans e44
      have h45 := (hx 45).symm.trans e45
      have h46 := (hx 46).symm.trans e46
      have h47 := (hx 47).symm.trans e47
      have h48 := (hx 48).symm.trans e48
      have h49 := (hx 49).symm.trans e49
      have h50 := (hx 50).symm.trans e50
      have h51 := (hx 51).symm.trans e51
      have h52 := (hx 52).symm.trans e52
      have h53 := (hx 53).symm.trans e53
      have h54 := (hx 54).symm.trans e54
      have h55 := (hx 55).symm.trans e55
      have h56 := (hx 56).symm.trans e56
      have h57 := (hx 57).symm.trans e57
      have h58 := (hx 58).symm.trans e58
      have h59 := (hx 59).symm.trans e59
      have h60 := (hx 60).symm.trans e60
      have h61 := (hx 61).symm.trans e61
      have h62 := (hx 62).symm.trans e62
      have h63 := (hx 63).symm.trans e63
      have h64 := (hx 64).symm.trans e64
      have h65 := (hx 65).symm.trans e65
      have h66 := (hx 66).symm.trans e66
      have h67 := (hx 67).symm.trans e67
      have h68 := (hx 68).symm.trans e68
      have h69 := (hx 69).symm.trans e69
      have h70 := (hx 70).symm.trans e70
      have h77 := (hx 77).symm.trans e77
      have h78 := (hx 78).symm.trans e78
      have h79 := (hx 79).symm.trans e79
      have h80 := (hx 80).symm.trans e80
      have h81 := (hx 81).symm.trans e81
      have h82 := (hx 82).symm.trans e82
      have h83 := (hx 83).symm.trans e83
      have h84 := (hx 84).symm.trans e84
      have h85 := (hx 85).symm.trans e85
      have h86 := (hx 86).symm.trans e86
      have h87 := (hx 87).symm.trans e87
      have h88 := (hx 88).symm.trans e88
      have h89 := (hx 89).symm.trans e89
      have h90 := (hx 90).symm.trans e90
      have h91 := (hx 91).symm.trans e91
      have h92 := (hx 92).symm.trans e92
      have h93 := (hx 93).symm.trans e93
      have h94 := (hx 94).symm.trans e94
      have h95 := (hx 95).symm.trans e95
      have h96 := (hx 96).symm.trans e96
      have h97 := (hx 97).symm.trans e97
      have h98 := (hx 98).symm.trans e98
      have h99 := (hx 99).symm.trans e99
      have h100 := (hx 100).symm.trans e100
      have h101 := (hx 101).symm.trans e101
      have h102 := (hx 102).symm.trans e102
      have h103 := (hx 103).symm.trans e103
      have h104 := (hx 104).symm.trans e104
      have h105 := (hx 105).symm.trans e105
      have h106 := (hx 106).symm.trans e106
      have h107 := (hx 107).symm.trans e107
      have h108 := (hx 108).symm.trans e108
      have h109 := (hx 109).symm.trans e109
      have h110 := (hx 110).symm.trans e110
      have h111 := (hx 111).symm.trans e111
      have h112 := (hx 112).symm.trans e112
      have h113 := (hx 113).symm.trans e113
      have h114 := (hx 114).symm.trans e114
      have h115 := (hx 115).symm.trans e115
      have h116 := (hx 116).symm.trans e116
      have h117 := (hx 117).symm.trans e117
      have h118 := (hx 118).symm.trans e118
      have h119 := (hx 119).symm.trans e119
      have h120 := (hx 120).symm.trans e120
      have h121 := (hx 121).symm.trans e121
      have h122 := (hx 122).symm.trans e122
      have h123 := (hx 123).symm.trans e123
      have h124 := (hx 124).symm.trans e124
      have h125 := (hx 125).symm.trans e125
      have h126 := (hx 126).symm.trans e126
      have h127 := (hx 127).symm.trans e127
      have h128 := (hx 128).symm.trans e128
      have h129 := (hx 129).symm.trans e129
      have h130 := (hx 130).symm.trans e130
      have h131 := (hx 131).symm.trans e131
      have h132 := (hx 132).symm.trans e132
      have h133 := (hx 133).symm.trans e133
      have h134 := (hx 134).symm.trans e134
      have h135 := (hx 135).symm.trans e135
      have h136 := (hx 136).symm.trans e136
      have h137 := (hx 137).symm.trans e137
      have h138 := (hx 138).symm.trans e138
      have h139 := (hx 139).symm.trans e139
      have h140 := (hx 140).symm.trans e140
      have h141 := (hx 141).symm.trans e141
      have h142 := (hx 142).symm.trans e142
      have h143 := (hx 143).symm.trans e143
      have h144 := (hx 144).symm.trans e144
      have h145 := (hx 145).symm.trans e145
      have h146 := (hx 146).symm.trans e146
      have h147 := (hx 147).symm.trans e147
      have h148 := (hx 148).symm.trans e148
      have h149 := (hx 149).symm.trans e149
      have h150 := (hx 150).symm.trans e150
      have h151 := (hx 151).symm.trans e151
      have h152 := (hx 152).symm.trans e152
      have h153 := (hx 153).symm.trans e153
      have h154 := (hx 154).symm.trans e154
      have ht' : t = #[x 0, x 1, x 2, x 3, x 4, x 5, x 6, x 7, x 8, x 9, x 10, x 11, x 12, x 13, x 14, x 15, x 16, x 17, x 18, x 19, x 20, x 21, x 22, x 23, x 24, x 25, x 26, x 27, x 28, x 29, x 30, x 31, x 32, x 33, x 34, x 35, x 36, x 37, x 38, x 39, x 40, x 41, x 42, x 43, x 44, x 45, x 46, x 47, x 48, x 49, x 50, x 51, x 52, x 53, x 54, x 55, x 56, x 57, x 58, x 59, x 60, x 61, x 62, x 63, x 64, x 65, x 66, x 67, x 68, x 69, x 70, x 71, x 72, x 73, x 74, x 75, x 76, x 77, x 78, x 79, x 80, x 81, x 82, x 83, x 84, x 85, x 86, x 87, x 88, x 89, x 90, x 91, x 92, x 93, x 94, x 95, x 96, x 97, x 98, x 99, x 100, x 101, x 102, x 103, x 104, x 105, x 106, x 107, x 108, x 109, x 110, x 111, x 112, x 113, x 114, x 115, x 116, x 117, x 118, x 119, x 120, x 121, x 122, x 123, x 124, x 125, x 126, x 127, x 128, x 129, x 130, x 131, x 132, x 133, x 134, x 135, x 136, x 137, x 138, x 139, x 140, x 141, x 142, x 143, x 144, x 145, x 146, x 147, x 148, x 149, x 150, x 151, x 152, x 153, x 154] := frame_lit t 155 hsz x hx
      clear hx hsz hz e24 e0 e1 e2 e3 e4 e5 e6 e7 e8 e9 e10 e11 e12 e13 e14 e15 e16 e17 e18 e19 e20 e21 e22 e23 e25 e26 e27 e28 e29 e30 e31 e32 e33 e34 e35 e36 e37 e38 e39 e40 e41 e42 e43 e44 e45 e46 e47 e48 e49 e50 e51 e52 e53 e54 e55 e56 e57 e58 e59 e60 e61 e62 e63 e64 e65 e66 e67 e68 e69 e70 e77 e78 e79 e80 e81 e82 e83 e84 e85 e86 e87 e88 e89 e90 e91 e92 e93 e94 e95 e96 e97 e98 e99 e100 e101 e102 e103 e104 e105 e106 e107 e108 e109 e110 e111 e112 e113 e114 e115 e116 e117 e118 e119 e120 e121 e122 e123 e124 e125 e126 e127 e128 e129 e130 e131 e132 e133 e134 e135 e136 e137 e138 e139 e140 e141 e142 e143 e144 e145 e146 e147 e148 e149 e150 e151 e152 e153 e154
      subst ht'
      dsimp only
      rw [h24, h0, h1, h2, h3, h4, h5, h6, h7, h8, h9, h10, h11, h12, h13, h14, h15, h16, h17, h18, h19, h20, h21, h22, h23, h25, h26, h27, h28, h29, h30, h31, h32, h33, h34, h35, h36, h37, h38, h39, h40, h41, h42, h43, h44, h45, h46, h47, h48, h49, h50, h51, h52, h53, h54, h55, h56, h57, h58, h59, h60, h61, h62, h63, h64, h65, h66, h67, h68, h69, h70, h77, h78, h79, h80, h81, h82, h83, h84, h85, h86, h87, h88, h89, h90, h91, h92, h93, h94, h95, h96, h97, h98, h99, h100, h101, h102, h103, h104, h105, h106, h107, h108, h109, h110, h111, h112, h113, h114, h115, h116, h117, h118, h119, h120, h121, h122, h123, h124, h125, h126, h127, h128, h129, h130, h131, h132, h133, h134, h135, h136, h137, h138, h139, h140, h141, h142, h143, h144, h145, h146, h147, h148, h149, h150, h151, h152, h153, h154]
      clear h24 h0 h1 h2 h3 h4 h5 h6 h7 h8 h9 h10 h11 h12 h13 h14 h15 h16 h17 h18 h19 h20 h21 h22 h23 h25 h26 h27 h28 h29 h30 h31 h32 h33 h34 h35 h36 h37 h38 h39 h40 h41 h42 h43 h44 h45 h46 h47 h48 h49 h50 h51 h52 h53 h54 h55 h56 h57 h58 h59 h60 h61 h62 h63 h64 h65 h66 h67 h68 h69 h70 h77 h78 h79 h80 h81 h82 h83 h84 h85 h86 h87 h88 h89 h90 h91 h92 h93 h94 h95 h96 h97 h98 h99 h100 h101 h102 h103 h104 h105 h106 h107 h108 h109 h110 h111 h112 h113 h114 h115 h116 h117 h118 h119 h120 h121 h122 h123 h124 h125 h126 h127 h128 h129 h130 h131 h132 h133 h134 h135 h136 h137 h138 h139 h140 h141 h142 h143 h144 h145 h146 h147 h148 h149 h150 h151 h152 h153 h154
      have hb := from_drew hS
      replace hB := hB.trans (hb.mono hB.size)
      replace hD := hD.later hb
      replace hG := hG.later hb
      replace hRA := hRA.later hb
      clear hS hb k_x hnw
      have hbl : (textF (makeF d y ns)).length ≤ 300 := by rw [textF_length]; omega
      generalize textF (makeF d y ns) = base0 at *
      have HW2 := Lib.hid (fun W => within6_any cut 2 W (by omega) (by omega))
      have m0 := Int.emod_nonneg cut (show (base0.length : Int) + 1 ≠ 0 by omega)
      have m1 := Int.emod_lt_of_pos cut (show (0 : Int) < (base0.length : Int) + 1 by omega)
      have HW3 := Lib.hid (fun W => within6_any cut ((base0.length : Int) + 1) W (by omega) (by omega))
      obtain ⟨q, hq⟩ : ∃ q : Nat, cut % ((base0.length : Int) + 1) = q := ⟨(cut % ((base0.length : Int) + 1)).toNat, by omega⟩
      rw [hq] at HW3 m1
      have hqb : q ≤ base0.length := by omega
      have hqb2 : (q : Int) ≤ (base0.length : Int) := by omega
      have hq0 : (0 : Int) ≤ (q : Int) := by omega
      have zl : IntKind.i64.wrap ((base0.length : Int) + 1) = (base0.length : Int) + 1 := wrap_in _ (by omega) (by omega)
      clear hq m0 m1
      go_upto_if 79 with (go_at_call 9; refine (HW2.out _).mono ?_; rintro e wl ⟨rfl, rfl⟩)
      go_cut [24] (fun s24 wx => ∃ base : List UInt8, s24 = .string ⟨base.toArray⟩ ∧ base.length ≤ 300 ∧ wx = w5)
      case first =>
        cases e1 : (cut % 2 == 0)
        · go_wp2_with fail
          go_meet
          exact ⟨base0, rfl, hbl, rfl⟩
        · go_wp2_with fail
          refine (HW3.out _).mono ?_
          rintro e wl ⟨rfl, rfl⟩
          go_wp2_with fail
          go_meet
          exact ⟨base0.take q, by simp, by simp; omega, rfl⟩
      case rest =>
        obtain ⟨base, rfl, hbs, rfl⟩ := hcut
        clear hbl hqb hqb2 hq0 zl HW2 HW3
        have F0 := hsm.ok.f0
        have F1 := hsm.f60
        have T0 := hsm.ok.f1
        have T1 := hsm.t119
        have HR1 := Lib.hid (fun W => within6_any round 130 W (by omega) (by omega))
        have HR2 := Lib.hid (fun W => within6_any round 3 W (by omega) (by omega))
        have HR3 := Lib.hid (fun W => within6_any round 2 W (by omega) (by omega))
        have HR4 := Lib.hid (fun W => within6_any (g.F + round % 3 - 1) 130 W (by omega) (by omega))
        have HR5 := Lib.hid (fun W => within6_any (g.To - 1 + round % 2) 130 W (by omega) (by omega))
        have c30 : 0 ≤ round % 3 := by omega
        have c31 : round % 3 < 3 := by omega
        have c20 : 0 ≤ round % 2 := by omega
        have c21 : round % 2 < 2 := by omega
        have g10 : 0 ≤ round % 130 := by omega
        have g11 : round % 130 < 130 := by omega
        generalize round % 130 = ra at *
        generalize round % 3 = rb at *
        generalize round % 2 = rc at *
        have z1 : IntKind.i64.wrap (g.F + rb) = g.F + rb := wrap_in _ (by omega) (by omega)
        have z2 : IntKind.i64.wrap (g.F + rb - 1) = g.F + rb - 1 := wrap_in _ (by omega) (by omega)
        have z3 : IntKind.i64.wrap (g.To - 1) = g.To - 1 := wrap_in _ (by omega) (by omega)
        have z4 : IntKind.i64.wrap (g.To - 1 + rc) = g.To - 1 + rc := wrap_in _ (by omega) (by omega)
        have g20 : 0 ≤ (g.F + rb - 1) % 130 := by omega
        have g21 : (g.F + rb - 1) % 130 < 130 := by omega
        have g30 : 0 ≤ (g.To - 1 + rc) % 130 := by omega
        have g31 : (g.To - 1 + rc) % 130 < 130 := by omega
        generalize (g.F + rb - 1) % 130 = rd at *
        generalize (g.To - 1 + rc) % 130 = re at *
        go_upto_region 15 with fail
        refine region_slots [some 87, some 88, some 89, some 90, some 91, some 92, some 93, some 94, some 95, some 96, some 97, some 98, some 99, some 100, some 101, some 102, some 103, some 25] [none, none, none, none, none, none, none, none, none, none, none, none, none, none, none, none, none, none] 155 18 rfl (by kernel_rfl) (by kernel_rfl) rfl rfl ?_
        apply step_fix
        · intro a W Zs hS hFm hz hd
          have h2 := hFm.old 2 rfl
          conv at h2 => rhs; whnf
          replace h2 := ev_get hFm.size h2
          refine .inl ⟨wanted_none rfl _, fun K hK => ?_⟩
          have HK := Lib.hid hK
          clear hd hFm hK
          go_simp
          exact HK.out _ _ rfl (Below.refl _ _)
        simp only [List.nil_append, List.cons_append]
        apply step_fix
        · intro a W Zs hS hFm hz hd
          have h87 := ev_get hFm.size (hd 0 87 rfl rfl)
          refine .inl ⟨wanted_none rfl _, fun K hK => ?_⟩
          have HK := Lib.hid hK
          clear hd hFm hK
          go_simp
          refine (HR1.out _).mono ?_
          rintro e W' ⟨rfl, rfl⟩
          exact HK.out _ _ rfl (Below.refl _ _)
        simp only [List.nil_append, List.cons_append]
        apply step_fix
        · intro a W Zs hS hFm hz hd
          have h20 := hFm.old 20 rfl
          conv at h20 => rhs; whnf
          replace h20 := ev_get hFm.size h20
          refine .inl ⟨wanted_none rfl _, fun K hK => ?_⟩
          have HK := Lib.hid hK
          clear hd hFm hK
          go_simp
          exact HK.out _ _ rfl (Below.refl _ _)
        simp only [List.nil_append, List.cons_append]
        apply step_fix
        · intro a W Zs hS hFm hz hd
          have h89 := ev_get hFm.size (hd 2 89 rfl rfl)
          have hq := (hG.drew1.later hS).at
          unfold faBox at hq
          refine .inl ⟨wanted_none rfl _, fun K hK => ?_⟩
          have HK := Lib.hid hK
          clear hd hFm hK
          go_simp
          exact HK.out _ _ rfl (Below.refl _ _)
        simp only [List.nil_append, List.cons_append]
        apply step_fix
        · intro a W Zs hS hFm hz hd
          have h2 := hFm.old 2 rfl
          conv at h2 => rhs; whnf
          replace h2 := ev_get hFm.size h2
          refine .inl ⟨wanted_none rfl _, fun K hK => ?_⟩
          have HK := Lib.hid hK
          clear hd hFm hK
          go_simp
          exact HK.out _ _ rfl (Below.refl _ _)
        simp only [List.nil_append, List.cons_append]
        apply step_fix
        · intro a W Zs hS hFm hz hd
          have h91 := ev_get hFm.size (hd 4 91 rfl rfl)
          refine .inl ⟨wanted_none rfl _, fun K hK => ?_⟩
          have HK := Lib.hid hK
          clear hd hFm hK
          go_simp
          refine (HR2.out _).mono ?_
          rintro e W' ⟨rfl, rfl⟩
          exact HK.out _ _ rfl (Below.refl _ _)
        simp only [List.nil_append, List.cons_append]
        apply step_fix
        · intro a W Zs hS hFm hz hd
          have h90 := ev_get hFm.size (hd 3 90 rfl rfl)
          have h92 := ev_get hFm.size (hd 5 92 rfl rfl)
          refine .inl ⟨wanted_none rfl _, fun K hK => ?_⟩
          have HK := Lib.hid hK
          clear hd hFm hK
          go_simp
          exact HK.out _ _ rfl (Below.refl _ _)
        simp only [List.nil_append, List.cons_append]
        apply step_fix
        · intro a W Zs hS hFm hz hd
          have h93 := ev_get hFm.size (hd 6 93 rfl rfl)
          refine .inl ⟨wanted_none rfl _, fun K hK => ?_⟩
          have HK := Lib.hid hK
          clear hd hFm hK
          go_simp
          exact HK.out _ _ rfl (Below.refl _ _)
        simp only [List.nil_append, List.cons_append]
        apply step_fix
        · intro a W Zs hS hFm hz hd
          have h94 := ev_get hFm.size (hd 7 94 rfl rfl)
          refine .inl ⟨wanted_none rfl _, fun K hK => ?_⟩
          have HK := Lib.hid hK
          clear hd hFm hK
          go_simp
          refine (HR4.out _).mono ?_
          rintro e W' ⟨rfl, rfl⟩
          exact HK.out _ _ rfl (Below.refl _ _)
        simp only [List.nil_append, List.cons_append]
        apply step_fix
        · intro a W Zs hS hFm hz hd
          have h20 := hFm.old 20 rfl
          conv at h20 => rhs; whnf
          replace h20 := ev_get hFm.size h20
          refine .inl ⟨wanted_none rfl _, fun K hK => ?_⟩
          have HK := Lib.hid hK
          clear hd hFm hK
          go_simp
          exact HK.out _ _ rfl (Below.refl _ _)
        simp only [List.nil_append, List.cons_append]
        apply step_fix
        · intro a W Zs hS hFm hz hd
          have h96 := ev_get hFm.size (hd 9 96 rfl rfl)
          have hq := (hG.drew1.later hS).at
          unfold faBox at hq
          refine .inl ⟨wanted_none rfl _, fun K hK => ?_⟩
          have HK := Lib.hid hK
          clear hd hFm hK
          go_simp
          exact HK.out _ _ rfl (Below.refl _ _)
        simp only [List.nil_append, List.cons_append]
        apply step_fix
        · intro a W Zs hS hFm hz hd
          have h97 := ev_get hFm.size (hd 10 97 rfl rfl)
          refine .inl ⟨wanted_none rfl _, fun K hK => ?_⟩
          have HK := Lib.hid hK
          clear hd hFm hK
          go_simp
          exact HK.out _ _ rfl (Below.refl _ _)
        simp only [List.nil_append, List.cons_append]
        apply step_fix
        · intro a W Zs hS hFm hz hd
          have h2 := hFm.old 2 rfl
          conv at h2 => rhs; whnf
          replace h2 := ev_get hFm.size h2
          refine .inl ⟨wanted_none rfl _, fun K hK => ?_⟩
          have HK := Lib.hid hK
          clear hd hFm hK
          go_simp
          exact HK.out _ _ rfl (Below.refl _ _)
        simp only [List.nil_append, List.cons_append]
        apply step_fix
        · intro a W Zs hS hFm hz hd
          have h99 := ev_get hFm.size (hd 12 99 rfl rfl)
          refine .inl ⟨wanted_none rfl _, fun K hK => ?_⟩
          have HK := Lib.hid hK
          clear hd hFm hK
          go_simp
          refine (HR3.out _).mono ?_
          rintro e W' ⟨rfl, rfl⟩
          exact HK.out _ _ rfl (Below.refl _ _)
        simp only [List.nil_append, List.cons_append]
        apply step_fix
        · intro a W Zs hS hFm hz hd
          have h98 := ev_get hFm.size (hd 11 98 rfl rfl)
          have h100 := ev_get hFm.size (hd 13 100 rfl rfl)
          refine .inl ⟨wanted_none rfl _, fun K hK => ?_⟩
          have HK := Lib.hid hK
          clear hd hFm hK
          go_simp
          exact HK.out _ _ rfl (Below.refl _ _)
        simp only [List.nil_append, List.cons_append]
        apply step_fix
        · intro a W Zs hS hFm hz hd
          have h101 := ev_get hFm.size (hd 14 101 rfl rfl)
          refine .inl ⟨wanted_none rfl _, fun K hK => ?_⟩
          have HK := Lib.hid hK
          clear hd hFm hK
          go_simp
          refine (HR5.out _).mono ?_
          rintro e W' ⟨rfl, rfl⟩
          exact HK.out _ _ rfl (Below.refl _ _)
        simp only [List.nil_append, List.cons_append]
        apply step_blk
        · intro a W Zs hS hFm hz hd
          have h88 := ev_get hFm.size (hd 1 88 rfl rfl)
          have h95 := ev_get hFm.size (hd 8 95 rfl rfl)
          have h102 := ev_get hFm.size (hd 15 102 rfl rfl)
          refine .inl ⟨wanted_none rfl _, fun K hK => ?_⟩
          have HK := Lib.hid hK
          clear hd hFm hK
          go_simp
          exact HK.out _ _ ⟨_, rfl, Blk.new _ _ _, .inr (.inl ⟨Nat.le_refl _, by simp⟩)⟩ (alloc_below _ _)
        simp only [List.nil_append, List.cons_append]
        apply step_blk
        · intro a W Zs hS hFm hz hd
          obtain ⟨b103, e103, q103, f103⟩ := hd 16 103 rfl rfl
          have h103 := ev_get hFm.size e103
          refine .inl ⟨wanted_none rfl _, fun K hK => ?_⟩
          have HK := Lib.hid hK
          clear hd hFm hK
          go_simp
          exact HK.out _ _ ⟨b103, rfl, q103, f103.imp id (foot_dep 16 rfl rfl rfl _)⟩ (Below.refl _ _)
        simp only [List.nil_append, List.cons_append]
        intro a w6 Zs hS hFm hz hd
        obtain ⟨b25, e25, q25, f25⟩ := hd 17 25 (by decide) rfl
        have e0 := hFm.old 0 rfl
        conv at e0 => rhs; whnf
        have e1 := hFm.old 1 rfl
        conv at e1 => rhs; whnf
        have e2 := hFm.old 2 rfl
        conv at e2 => rhs; whnf
        have e3 := hFm.old 3 rfl
        conv at e3 => rhs; whnf
        have e4 := hFm.old 4 rfl
        conv at e4 => rhs; whnf
        have e5 := hFm.old 5 rfl
        conv at e5 => rhs; whnf
        have e6 := hFm.old 6 rfl
        conv at e6 => rhs; whnf
        have e7 := hFm.old 7 rfl
        conv at e7 => rhs; whnf
        have e8 := hFm.old 8 rfl
        conv at e8 => rhs; whnf
        have e9 := hFm.old 9 rfl
        conv at e9 => rhs; whnf
        have e10 := hFm.old 10 rfl
        conv at e10 => rhs; whnf
        have e11 := hFm.old 11 rfl
        conv at e11 => rhs; whnf
        have e12 := hFm.old 12 rfl
        conv at e12 => rhs; whnf
        have e13 := hFm.old 13 rfl
        conv at e13 => rhs; whnf
        have e14 := hFm.old 14 rfl
        conv at e14 => rhs; whnf
        have e15 := hFm.old 15 rfl
        conv at e15 => rhs; whnf
        have e16 := hFm.old 16 rfl
        conv at e16 => rhs; whnf
        have e17 := hFm.old 17 rfl
        conv at e17 => rhs; whnf
        have e18 := hFm.old 18 rfl
        conv at e18 => rhs; whnf
        have e19 := hFm.old 19 rfl
        conv at e19 => rhs; whnf
        have e20 := hFm.old 20 rfl
        conv at e20 => rhs; whnf
        have e21 := hFm.old 21 rfl
        conv at e21 => rhs; whnf
        have e22 := hFm.old 22 rfl
        conv at e22 => rhs; whnf
        have e23 := hFm.old 23 rfl
        conv at e23 => rhs; whnf
        have e24 := hFm.old 24 rfl
        conv at e24 => rhs; whnf
        have e26 := hFm.old 26 rfl
        conv at e26 => rhs; whnf
        have e27 := hFm.old 27 rfl
        conv at e27 => rhs; whnf
        have e28 := hFm.old 28 rfl
        conv at e28 => rhs; whnf
        have e29 := hFm.old 29 rfl
        conv at e29 => rhs; whnf
        have e30 := hFm.old 30 rfl
        conv at e30 => rhs; whnf
        have e31 := hFm.old 31 rfl
        conv at e31 => rhs; whnf
        have e32 := hFm.old 32 rfl
        conv at e32 => rhs; whnf
        have e33 := hFm.old 33 rfl
        conv at e33 => rhs; whnf
        have e34 := hFm.old 34 rfl
        conv at e34 => rhs; whnf
        have e35 := hFm.old 35 rfl
        conv at e35 => rhs; whnf
        have e36 := hFm.old 36 rfl
        conv at e36 => rhs; whnf
        have e37 := hFm.old 37 rfl
        conv at e37 => rhs; whnf
        have e38 := hFm.old 38 rfl
        conv at e38 => rhs; whnf
        have e39 := hFm.old 39 rfl
        conv at e39 => rhs; whnf
        have e40 := hFm.old 40 rfl
        conv at e40 => rhs; whnf
        have e41 := hFm.old 41 rfl
        conv at e41 => rhs; whnf
        have e42 := hFm.old 42 rfl
        conv at e42 => rhs; whnf
        have e43 := hFm.old 43 rfl
        conv at e43 => rhs; whnf
        have e44 := hFm.old 44 rfl
        conv at e44 => rhs; whnf
        have e45 := hFm.old 45 rfl
        conv at e45 => rhs; whnf
        have e46 := hFm.old 46 rfl
        conv at e46 => rhs; whnf
        have e47 := hFm.old 47 rfl
        conv at e47 => rhs; whnf
        have e48 := hFm.old 48 rfl
        conv at e48 => rhs; whnf
        have e49 := hFm.old 49 rfl
        conv at e49 => rhs; whnf
        have e50 := hFm.old 50 rfl
        conv at e50 => rhs; whnf
        have e51 := hFm.old 51 rfl
        conv at e51 => rhs; whnf
        have e52 := hFm.old 52 rfl
        conv at e52 => rhs; whnf
        have e53 := hFm.old 53 rfl
        conv at e53 => rhs; whnf
        have e54 := hFm.old 54 rfl
        conv at e54 => rhs; whnf
        have e55 := hFm.old 55 rfl
        conv at e55 => rhs; whnf
        have e56 := hFm.old 56 rfl
        conv at e56 => rhs; whnf
        have e57 := hFm.old 57 rfl
        conv at e57 => rhs; whnf
        have e58 := hFm.old 58 rfl
        conv at e58 => rhs; whnf
        have e59 := hFm.old 59 rfl
        conv at e59 => rhs; whnf
        have e60 := hFm.old 60 rfl
        conv at e60 => rhs; whnf
        have e61 := hFm.old 61 rfl
        conv at e61 => rhs; whnf
        have e62 := hFm.old 62 rfl
        conv at e62 => rhs; whnf
        have e63 := hFm.old 63 rfl
        conv at e63 => rhs; whnf
        have e64 := hFm.old 64 rfl
        conv at e64 => rhs; whnf
        have e65 := hFm.old 65 rfl
        conv at e65 => rhs; whnf
        have e66 := hFm.old 66 rfl
        conv at e66 => rhs; whnf
        have e67 := hFm.old 67 rfl
        conv at e67 => rhs; whnf
        have e68 := hFm.old 68 rfl
        conv at e68 => rhs; whnf
        have e69 := hFm.old 69 rfl
        conv at e69 => rhs; whnf
        have e70 := hFm.old 70 rfl
        conv at e70 => rhs; whnf
        have e71 := hFm.old 71 rfl
        conv at e71 => rhs; whnf
        have e72 := hFm.old 72 rfl
        conv at e72 => rhs; whnf
        have e73 := hFm.old 73 rfl
        conv at e73 => rhs; whnf
        have e74 := hFm.old 74 rfl
        conv at e74 => rhs; whnf
        have e75 := hFm.old 75 rfl
        conv at e75 => rhs; whnf
        have e76 := hFm.old 76 rfl
        conv at e76 => rhs; whnf
        have e77 := hFm.old 77 rfl
        conv at e77 => rhs; whnf
        have e78 := hFm.old 78 rfl
        conv at e78 => rhs; whnf
        have e79 := hFm.old 79 rfl
        conv at e79 => rhs; whnf
        have e80 := hFm.old 80 rfl
        conv at e80 => rhs; whnf
        have e81 := hFm.old 81 rfl
        conv at e81 => rhs; whnf
        have e82 := hFm.old 82 rfl
        conv at e82 => rhs; whnf
        have e83 := hFm.old 83 rfl
        conv at e83 => rhs; whnf
        have e84 := hFm.old 84 rfl
        conv at e84 => rhs; whnf
        have e85 := hFm.old 85 rfl
        conv at e85 => rhs; whnf
        have e86 := hFm.old 86 rfl
        conv at e86 => rhs; whnf
        have e104 := hFm.old 104 rfl
        conv at e104 => rhs; whnf
        have e105 := hFm.old 105 rfl
        conv at e105 => rhs; whnf
        have e106 := hFm.old 106 rfl
        conv at e106 => rhs; whnf
        have e107 := hFm.old 107 rfl
        conv at e107 => rhs; whnf
        have e108 := hFm.old 108 rfl
        conv at e108 => rhs; whnf
        have e109 := hFm.old 109 rfl
        conv at e109 => rhs; whnf
        have e110 := hFm.old 110 rfl
        conv at e110 => rhs; whnf
        have e111 := hFm.old 111 rfl
        conv at e111 => rhs; whnf
        have e112 := hFm.old 112 rfl
        conv at e112 => rhs; whnf
        have e113 := hFm.old 113 rfl
        conv at e113 => rhs; whnf
        have e114 := hFm.old 114 rfl
        conv at e114 => rhs; whnf
        have e115 := hFm.old 115 rfl
        conv at e115 => rhs; whnf
        have e116 := hFm.old 116 rfl
        conv at e116 => rhs; whnf
        have e117 := hFm.old 117 rfl
        conv at e117 => rhs; whnf
        have e118 := hFm.old 118 rfl
        conv at e118 => rhs; whnf
        have e119 := hFm.old 119 rfl
        conv at e119 => rhs; whnf
        have e120 := hFm.old 120 rfl
        conv at e120 => rhs; whnf
        have e121 := hFm.old 121 rfl
        conv at e121 => rhs; whnf
        have e122 := hFm.old 122 rfl
        conv at e122 => rhs; whnf
        have e123 := hFm.old 123 rfl
        conv at e123 => rhs; whnf
        have e124 := hFm.old 124 rfl
        conv at e124 => rhs; whnf
        have e125 := hFm.old 125 rfl
        conv at e125 => rhs; whnf
        have e126 := hFm.old 126 rfl
        conv at e126 => rhs; whnf
        have e127 := hFm.old 127 rfl
        conv at e127 => rhs; whnf
        have e128 := hFm.old 128 rfl
        conv at e128 => rhs; whnf
        have e129 := hFm.old 129 rfl
        conv at e129 => rhs; whnf
        have e130 := hFm.old 130 rfl
        conv at e130 => rhs; whnf
        have e131 := hFm.old 131 rfl
        conv at e131 => rhs; whnf
        have e132 := hFm.old 132 rfl
        conv at e132 => rhs; whnf
        have e133 := hFm.old 133 rfl
        conv at e133 => rhs; whnf
        have e134 := hFm.old 134 rfl
        conv at e134 => rhs; whnf
        have e135 := hFm.old 135 rfl
        conv at e135 => rhs; whnf
        have e136 := hFm.old 136 rfl
        conv at e136 => rhs; whnf
        have e137 := hFm.old 137 rfl
        conv at e137 => rhs; whnf
        have e138 := hFm.old 138 rfl
        conv at e138 => rhs; whnf
        have e139 := hFm.old 139 rfl
        conv at e139 => rhs; whnf
        have e140 := hFm.old 140 rfl
        conv at e140 => rhs; whnf
        have e141 := hFm.old 141 rfl
        conv at e141 => rhs; whnf
        have e142 := hFm.old 142 rfl
        conv at e142 => rhs; whnf
        have e143 := hFm.old 143 rfl
        conv at e143 => rhs; whnf
        have e144 := hFm.old 144 rfl
        conv at e144 => rhs; whnf
        have e145 := hFm.old 145 rfl
        conv at e145 => rhs; whnf
        have e146 := hFm.old 146 rfl
        conv at e146 => rhs; whnf
        have e147 := hFm.old 147 rfl
        conv at e147 => rhs; whnf
        have e148 := hFm.old 148 rfl
        conv at e148 => rhs; whnf
        have e149 := hFm.old 149 rfl
        conv at e149 => rhs; whnf
        have e150 := hFm.old 150 rfl
        conv at e150 => rhs; whnf
        have e151 := hFm.old 151 rfl
        conv at e151 => rhs; whnf
        have e152 := hFm.old 152 rfl
        conv at e152 => rhs; whnf
        have e153 := hFm.old 153 rfl
        conv at e153 => rhs; whnf
        have e154 := hFm.old 154 rfl
        conv at e154 => rhs; whnf
        have hsz := hFm.size
        have hdf := hFm.defers
        clear hd hFm
        obtain ⟨t, df⟩ := a
        simp only at hsz hdf
        subst hdf
        obtain ⟨x, hx⟩ : ∃ x : Nat → Value, ∀ i, t.getD i undef = x i := ⟨fun i => t.getD i undef, fun _ => rfl⟩
        have h25 := (hx 25).symm.trans e25
        have h0 := (hx 0).symm.trans e0
        have h1 := (hx 1).symm.trans e1
        have h2 := (hx 2).symm.trans e2
        have h3 := (hx 3).symm.trans e3
        have h4 := (hx 4).symm.trans e4
        have h5 := (hx 5).symm.trans e5
        have h6 := (hx 6).symm.trans e6
        have h7 := (hx 7).symm.trans e7
        have h8 := (hx 8).symm.trans e8
        have h9 := (hx 9).symm.trans e9
        have h10 := (hx 10).symm.trans e10
        have h11 := (hx 11).symm.trans e11
        have h12 := (hx 12).symm.trans e12
        have h13 := (hx 13).symm.trans e13
        have h14 := (hx 14).symm.trans e14
        have h15 := (hx 15).symm.trans e15
        have h16 := (hx 16).symm.trans e16
        have h17 := (hx 17).symm.trans e17
        have h18 := (hx 18).symm.trans e18
        have h19 := (hx 19).symm.trans e19
        have h20 := (hx 20).symm.trans e20
        have h21 := (hx 21).symm.trans e21
        have h22 := (hx 22).symm.trans e22
        have h23 := (hx 23).symm.trans e23
        have h24 := (hx 24).symm.trans e24
        have h26 := (hx 26).symm.trans e26
        have h27 := (hx 27).symm.trans e27
        have h28 := (hx 28).symm.trans e28
        have h29 := (hx 29).symm.trans e29
        have h30 := (hx 30).symm.trans e30
        have h31 := (hx 31).symm.trans e31
        have h32 := (hx 32).symm.trans e32
        have h33 := (hx 33).symm.trans e33
        have h34 := (hx 34).symm.trans e34
        have h35 := (hx 35).symm.trans e35
        have h36 := (hx 36).symm.trans e36
        have h37 := (hx 37).symm.trans e37
        have h38 := (hx 38).symm.trans e38
        have h39 := (hx 39).symm.trans e39
        have h40 := (hx 40).symm.trans e40
        have h41 := (hx 41).symm.trans e41
        have h42 := (hx 42).symm.trans e42
        have h43 := (hx 43).symm.trans e43
        have h44 := (hx 44).symm.trans e44
        have h45 := (hx 45).symm.trans e45
        have h46 := (hx 46).symm.trans e46
        have h47 := (hx 47).symm.trans e47
        have h48 := (hx 48).symm.trans e48
        have h49 := (hx 49).symm.trans e49
        have h50 := (hx 50).symm.trans e50
        have h51 := (hx 51).symm.trans e51
        have h52 := (hx 52).symm.trans e52
        have h53 := (hx 53).symm.trans e53
        have h54 := (hx 54).symm.trans e54
        have h55 := (hx 55).symm.trans e55
        have h56 := (hx 56).symm.trans e56
        have h57 := (hx 57).symm.trans e57
        have h58 := (hx 58).symm.trans e58
        have h59 := (hx 59).symm.trans e59
        have h60 := (hx 60).symm.trans e60
        have h61 := (hx 61).symm.trans e61
        have h62 := (hx 62).symm.trans e62
        have h63 := (hx 63).symm.trans e63
        have h64 := (hx 64).symm.trans e64
        have h65 := (hx 65).symm.trans e65
        have h66 := (hx 66).symm.trans e66
        have h67 := (hx 67).symm.trans e67
        have h68 := (hx 68).symm.trans e68
        have h69 := (hx 69).symm.trans e69
        have h70 := (hx 70).symm.trans e70
        have h71 := (hx 71).symm.trans e71
        have h72 := (hx 72).symm.trans e72
        have h73 := (hx 73).symm.trans e73
        have h74 := (hx 74).symm.trans e74
        have h75 := (hx 75).symm.trans e75
        have h76 := (hx 76).symm.trans e76
        have h77 := (hx 77).symm.trans e77
        have h78 := (hx 78).symm.trans e78
        have h79 := (hx 79).symm.trans e79
        have h80 := (hx 80).symm.trans e80
        have h81 := (hx 81).symm.trans e81
        have h82 := (hx 82).symm.trans e82
        have h83 := (hx 83).symm.trans e83
        have h84 := (hx 84).symm.trans e84
        have h85 := (hx 85).symm.trans e85
        have h86 := (hx 86).symm.trans e86
        have h104 := (hx 104).symm.trans e104
        have h105 := (hx 105).symm.trans e105
        have h106 := (hx 106).symm.trans e106
        have h107 := (hx 107).symm.trans e107
        have h108 := (hx 108).symm.trans e108
        have h109 := (hx 109).symm.trans e109
        have h110 := (hx 110).symm.trans e110
        have h111 := (hx 111).symm.trans e111
        have h112 := (hx 112).symm.trans e112
        have h113 := (hx 113).symm.trans e113
        have h114 := (hx 114).symm.trans e114
        have h115 := (hx 115).symm.trans e115
        have h116 := (hx 116).symm.trans e116
        have h117 := (hx 117).symm.trans e117
        have h118 := (hx 118).symm.trans e118
        have h119 := (hx 119).symm.trans e119
        have h120 := (hx 120).symm.trans e120
        have h121 := (hx 121).symm.trans e121
        have h122 := (hx 122).symm.trans e122
        have h123 := (hx 123).symm.trans e123
        have h124 := (hx 124).symm.trans e124
        have h125 := (hx 125).symm.trans e125
        have h126 := (hx 126).symm.trans e126
        have h127 := (hx 127).symm.trans e127
        have h128 := (hx 128).symm.trans e128
        have h129 := (hx 129).symm.trans e129
        have h130 := (hx 130).symm.trans e130
        have h131 := (hx 131).symm.trans e131
        have h132 := (hx 132).symm.trans e132
        have h133 := (hx 133).symm.trans e133
        have h134 := (hx 134).symm.trans e134
        have h135 := (hx 135).symm.trans e135
        have h136 := (hx 136).symm.trans e136
        have h137 := (hx 137).symm.trans e137
        have h138 := (hx 138).symm.trans e138
        have h139 := (hx 139).symm.trans e139
        have h140 := (hx 140).symm.trans e140
        have h141 := (hx 141).symm.trans e141
        have h142 := (hx 142).symm.trans e142
        have h143 := (hx 143).symm.trans e143
        have h144 := (hx 144).symm.trans e144
        have h145 := (hx 145).symm.trans e145
        have h146 := (hx 146).symm.trans e146
        have h147 := (hx 147).symm.trans e147
        have h148 := (hx 148).symm.trans e148
        have h149 := (hx 149).symm.trans e149
        have h150 := (hx 150).symm.trans e150
        have h151 := (hx 151).symm.trans e151
        have h152 := (hx 152).symm.trans e152
        have h153 := (hx 153).symm.trans e153
        have h154 := (hx 154).symm.trans e154
        have ht' : t = #[x 0, x 1, x 2, x 3, x 4, x 5, x 6, x 7, x 8, x 9, x 10, x 11, x 12, x 13, x 14, x 15, x 16, x 17, x 18, x 19, x 20, x 21, x 22, x 23, x 24, x 25, x 26, x 27, x 28, x 29, x 30, x 31, x 32, x 33, x 34, x 35, x 36, x 37, x 38, x 39, x 40, x 41, x 42, x 43, x 44, x 45, x 46, x 47, x 48, x 49, x 50, x 51, x 52, x 53, x 54, x 55, x 56, x 57, x 58, x 59, x 60, x 61, x 62, x 63, x 64, x 65, x 66, x 67, x 68, x 69, x 70, x 71, x 72, x 73, x 74, x 75, x 76, x 77, x 78, x 79, x 80, x 81, x 82, x 83, x 84, x 85, x 86, x 87, x 88, x 89, x 90, x 91, x 92, x 93, x 94, x 95, x 96, x 97, x 98, x 99, x 100, x 101, x 102, x 103, x 104, x 105, x 106, x 107, x 108, x 109, x 110, x 111, x 112, x 113, x 114, x 115, x 116, x 117, x 118, x 119, x 120, x 121, x 122, x 123, x 124, x 125, x 126, x 127, x 128, x 129, x 130, x 131, x 132, x 133, x 134, x 135, x 136, x 137, x 138, x 139, x 140, x 141, x 142, x 143, x 144, x 145, x 146, x 147, x 148, x 149, x 150, x 151, x 152, x 153, x 154] := frame_lit t 155 hsz x hx
        clear hx hsz hz e25 e0 e1 e2 e3 e4 e5 e6 e7 e8 e9 e10 e11 e12 e13 e14 e15 e16 e17 e18 e19 e20 e21 e22 e23 e24 e26 e27 e28 e29 e30 e31 e32 e33 e34 e35 e36 e37 e38 e39 e40 e41 e42 e43 e44 e45 e46 e47 e48 e49 e50 e51 e52 e53 e54 e55 e56 e57 e58 e59 e60 e61 e62 e63 e64 e65 e66 e67 e68 e69 e70 e71 e72 e73 e74 e75 e76 e77 e78 e79 e80 e81 e82 e83 e84 e85 e86 e104 e105 e106 e107 e108 e109 e110 e111 e112 e113 e114 e115 e116 e117 e118 e119 e120 e121 e122 e123 e124 e125 e126 e127 e128 e129 e130 e131 e132 e133 e134 e135 e136 e137 e138 e139 e140 e141 e142 e143 e144 e145 e146 e147 e148 e149 e150 e151 e152 e153 e154
        subst ht'
        dsimp only
        rw [h25, h0, h1, h2, h3, h4, h5, h6, h7, h8, h9, h10, h11, h12, h13, h14, h15, h16, h17, h18, h19, h20, h21, h22, h23, h24, h26, h27, h28, h29, h30, h31, h32, h33, h34, h35, h36, h37, h38, h39, h40, h41, h42, h43, h44, h45, h46, h47, h48, h49, h50, h51, h52, h53, h54, h55, h56, h57, h58, h59, h60, h61, h62, h63, h64, h65, h66, h67, h68, h69, h70, h71, h72, h73, h74, h75, h76, h77, h78, h79, h80, h81, h82, h83, h84, h85, h86, h104, h105, h106, h107, h108, h109, h110, h111, h112, h113, h114, h115, h116, h117, h118, h119, h120, h121, h122, h123, h124, h125, h126, h127, h128, h129, h130, h131, h132, h133, h134, h135, h136, h137, h138, h139, h140, h141, h142, h143, h144, h145, h146, h147, h148, h149, h150, h151, h152, h153, h154]
        clear h25 h0 h1 h2 h3 h4 h5 h6 h7 h8 h9 h10 h11 h12 h13 h14 h15 h16 h17 h18 h19 h20 h21 h22 h23 h24 h26 h27 h28 h29 h30 h31 h32 h33 h34 h35 h36 h37 h38 h39 h40 h41 h42 h43 h44 h45 h46 h47 h48 h49 h50 h51 h52 h53 h54 h55 h56 h57 h58 h59 h60 h61 h62 h63 h64 h65 h66 h67 h68 h69 h70 h71 h72 h73 h74 h75 h76 h77 h78 h79 h80 h81 h82 h83 h84 h85 h86 h104 h105 h106 h107 h108 h109 h110 h111 h112 h113 h114 h115 h116 h117 h118 h119 h120 h121 h122 h123 h124 h125 h126 h127 h128 h129 h130 h131 h132 h133 h134 h135 h136 h137 h138 h139 h140 h141 h142 h143 h144 h145 h146 h147 h148 h149 h150 h151 h152 h153 h154
        have hb := from_drew hS
        replace hB := hB.trans (hb.mono hB.size)
        replace hD := hD.later hb
        replace hG := hG.later hb
        replace hRA := hRA.later hb
        clear hS hb HR1 HR2 HR3 HR4 HR5 z1 z2 z3 z4
        clear f25 hokg hl15
        have hlA : g.A.length ≤ 1000000 := Nat.le_trans hsm.lA (by omega)
        have htx : ∀ t ∈ g.A, t.T.length ≤ 1048576 := fun t ht => Nat.le_trans (hsm.texts t ht) (by omega)
        have HM1 := Lib.hid (fun (r : Int) (r0 : 0 ≤ r) (r1 : r < 130) W (h : RowA W ga g.A) => lEmit_any d da dc g ga gc ge gec r s i j base W hok h hlA htx r0 (by omega) s0 s1 ⟨by omega, by omega⟩ j0 (by omega) (by omega))
        have HM2 := Lib.hid (fun (r : Int) (r0 : 0 ≤ r) (r1 : r < 130) W (h : RowA W ga g.A) => rEmit6_any d da dc g ga gc ge gec r s i j base W hok h hlA htx r0 (by omega) s0 s1 ⟨by omega, by omega⟩ j0 (by omega) (by omega))
        have HH1 := Lib.hid (fun W => lHits_any d da dc g ga gc ge gec i j W hok ⟨by omega, by omega⟩ ⟨by omega, by omega⟩)
        have HH2 := Lib.hid (fun W => rHits6_any d da dc g ga gc ge gec i j W hok)
        have HT1 := Lib.hid (fun (r : Int) W => lRight_any d da dc g ga gc ge gec r i W)
        have HT2 := Lib.hid (fun (r : Int) W => rRight6_any d da dc g ga gc ge gec r i W)
        generalize hitsB d g i j = hh at *
        clear hlA htx
        go_upto_region 17 with fail
        go_loopw [26] (fun v w' => ∃ k : Nat, v = .int .i64 k ∧ k ≤ 3 ∧ Below w.heap.size w w' ∧ Blk w' db 24 (confBox d da dc) ∧ Blk w' gb 27 (faBox g ga gc ge gec) ∧ RowA w' ga g.A ∧ Blk w' b25 3 #[.int .i64 ra, .int .i64 rd, .int .i64 re]) (fun v _ => 3 - (intOf v).toNat)
        case atStart => exact ⟨0, rfl, Nat.zero_le _, hB, hD, hG, hRA, q25⟩
        case round =>
          clear hB hD hG hRA q25
          obtain ⟨k, rfl, hk, hB, hD, hG, hRA, q25⟩ := hrel
          by_cases hlt : k < 3
          · have d3 : decide (k < 3) = true := by simpa using hlt
            have d3' : decide ((k : Int) < 3) = true := by simp; omega
            obtain ⟨r, hr, r0, r9⟩ : ∃ r : Int, (#[.int .i64 ra, .int .i64 rd, .int .i64 re] : Array Value)[k]? = some (.int .i64 r) ∧ 0 ≤ r ∧ r < 130 := by
              rcases (by omega : k = 0 ∨ k = 1 ∨ k = 2) with rfl | rfl | rfl
              · exact ⟨ra, rfl, g10, g11⟩
              · exact ⟨rd, rfl, g20, g21⟩
              · exact ⟨re, rfl, g30, g31⟩
            have hq := (q25.at k).trans hr
            have HA1 := Lib.hid (HM1.out r r0 r9)
            have HA2 := Lib.hid (HM2.out r r0 r9)
            have HB1 := Lib.hid (HT1.out r)
            have HB2 := Lib.hid (HT2.out r)
            generalize emitL d g r s i j base = tx at *
            generalize rightB g r i = rt at *
            clear HM1 HM2 HT1 HT2 hr
            have b0 : (tx == tx) = true := by simp
            have b1 : (tx != tx) = false := by simp
            have b2 : (hh != hh) = false := by simp
            have b3 : (rt != rt) = false := by simp
            have hk0 : (0 : Int) ≤ (k : Int) := by omega
            have hk3 : (k : Int) < 3 := by omega
            go_upto_region 20 with fail
            clear hq hk0
            (try dsimp only [List.append])
            refine region_slots [some 112, some 113, some 114, some 115, some 116, some 117, some 118, some 119, some 120, some 121, some 122, some 123, some 124, some 125, some 126, some 127, some 128, some 129, some 130, some 131, some 132, some 133, some 134, some 135, some 136, some 137, some 138, some 139, some 140, some 141, some 142, some 143, some 144, some 145, some 146, some 147, some 148, some 149, some 150, some 151, some 152, some 153, some 154] [none, none, none, none, none, none, none, none, none, none, none, none, none, none, none, none, none, none, none, none, none, none, none, none, none, none, none, none, none, none, none, none, none, none, none, none, none, none, none, none, none, none, none] 155 43 rfl (by kernel_rfl) (by kernel_rfl) rfl rfl ?_
            apply step_fix
            · intro a W Zs hS hFm hz hd
              have h19 := hFm.old 19 rfl
              conv at h19 => rhs; whnf
              replace h19 := ev_get hFm.size h19
              have hq := (hD.drew1.later hS).at
              unfold confBox at hq
              refine .inl ⟨wanted_none rfl _, fun K hK => ?_⟩
              have HK := Lib.hid hK
              clear hd hFm hK
              go_simp
              exact HK.out _ _ rfl (Below.refl _ _)
            simp only [List.nil_append, List.cons_append]
            apply step_fix
            · intro a W Zs hS hFm hz hd
              have h20 := hFm.old 20 rfl
              conv at h20 => rhs; whnf
              replace h20 := ev_get hFm.size h20
              have hq := (hG.drew1.later hS).at
              unfold faBox at hq
              refine .inl ⟨wanted_none rfl _, fun K hK => ?_⟩
              have HK := Lib.hid hK
              clear hd hFm hK
              go_simp
              exact HK.out _ _ rfl (Below.refl _ _)
            simp only [List.nil_append, List.cons_append]
            apply step_fix
            · intro a W Zs hS hFm hz hd
              have h27 := hFm.old 27 rfl
              conv at h27 => rhs; whnf
              replace h27 := ev_get hFm.size h27
              refine .inl ⟨wanted_none rfl _, fun K hK => ?_⟩
              have HK := Lib.hid hK
              clear hd hFm hK
              go_simp
              exact HK.out _ _ rfl (Below.refl _ _)
            simp only [List.nil_append, List.cons_append]
            apply step_fix
            · intro a W Zs hS hFm hz hd
              have h21 := hFm.old 21 rfl
              conv at h21 => rhs; whnf
              replace h21 := ev_get hFm.size h21
              refine .inl ⟨wanted_none rfl _, fun K hK => ?_⟩
              have HK := Lib.hid hK
              clear hd hFm hK
              go_simp
              exact HK.out _ _ rfl (Below.refl _ _)
            simp only [List.nil_append, List.cons_append]
            apply step_fix
            · intro a W Zs hS hFm hz hd
              have h22 := hFm.old 22 rfl
              conv at h22 => rhs; whnf
              replace h22 := ev_get hFm.size h22
              refine .inl ⟨wanted_none rfl _, fun K hK => ?_⟩
              have HK := Lib.hid hK
              clear hd hFm hK
              go_simp
              exact HK.out _ _ rfl (Below.refl _ _)
            simp only [List.nil_append, List.cons_append]
            apply step_fix
            · intro a W Zs hS hFm hz hd
              have h23 := hFm.old 23 rfl
              conv at h23 => rhs; whnf
              replace h23 := ev_get hFm.size h23
              refine .inl ⟨wanted_none rfl _, fun K hK => ?_⟩
              have HK := Lib.hid hK
              clear hd hFm hK
              go_simp
              exact HK.out _ _ rfl (Below.refl _ _)
            simp only [List.nil_append, List.cons_append]
            apply step_fix
            · intro a W Zs hS hFm hz hd
              have h24 := hFm.old 24 rfl
              conv at h24 => rhs; whnf
              replace h24 := ev_get hFm.size h24
              refine .inl ⟨wanted_none rfl _, fun K hK => ?_⟩
              have HK := Lib.hid hK
              clear hd hFm hK
              go_simp
              exact HK.out _ _ rfl (Below.refl _ _)
            simp only [List.nil_append, List.cons_append]
            apply step_fix
            · intro a W Zs hS hFm hz hd
              have h112 := ev_get hFm.size (hd 0 112 rfl rfl)
              have h113 := ev_get hFm.size (hd 1 113 rfl rfl)
              have h114 := ev_get hFm.size (hd 2 114 rfl rfl)
              have h115 := ev_get hFm.size (hd 3 115 rfl rfl)
              have h116 := ev_get hFm.size (hd 4 116 rfl rfl)
              have h117 := ev_get hFm.size (hd 5 117 rfl rfl)
              have h118 := ev_get hFm.size (hd 6 118 rfl rfl)
              refine .inl ⟨wanted_none rfl _, fun K hK => ?_⟩
              have HK := Lib.hid hK
              clear hd hFm hK
              go_simp
              refine (HA1.out _ (hRA.drew1.later hS)).mono ?_
              rintro e W' ⟨rfl, hb⟩
              exact HK.out _ _ rfl hb
            simp only [List.nil_append, List.cons_append]
            apply step_fix
            · intro a W Zs hS hFm hz hd
              have h19 := hFm.old 19 rfl
              conv at h19 => rhs; whnf
              replace h19 := ev_get hFm.size h19
              have hq := (hD.drew1.later hS).at
              unfold confBox at hq
              refine .inl ⟨wanted_none rfl _, fun K hK => ?_⟩
              have HK := Lib.hid hK
              clear hd hFm hK
              go_simp
              exact HK.out _ _ rfl (Below.refl _ _)
            simp only [List.nil_append, List.cons_append]
            apply step_fix
            · intro a W Zs hS hFm hz hd
              have h20 := hFm.old 20 rfl
              conv at h20 => rhs; whnf
              replace h20 := ev_get hFm.size h20
              have hq := (hG.drew1.later hS).at
              unfold faBox at hq
              refine .inl ⟨wanted_none rfl _, fun K hK => ?_⟩
              have HK := Lib.hid hK
              clear hd hFm hK
              go_simp
              exact HK.out _ _ rfl (Below.refl _ _)
            simp only [List.nil_append, List.cons_append]
            apply step_fix
            · intro a W Zs hS hFm hz hd
              have h27 := hFm.old 27 rfl
              conv at h27 => rhs; whnf
              replace h27 := ev_get hFm.size h27
              refine .inl ⟨wanted_none rfl _, fun K hK => ?_⟩
              have HK := Lib.hid hK
              clear hd hFm hK
              go_simp
              exact HK.out _ _ rfl (Below.refl _ _)
            simp only [List.nil_append, List.cons_append]
            apply step_fix
            · intro a W Zs hS hFm hz hd
              have h21 := hFm.old 21 rfl
              conv at h21 => rhs; whnf
              replace h21 := ev_get hFm.size h21
              refine .inl ⟨wanted_none rfl _, fun K hK => ?_⟩
              have HK := Lib.hid hK
              clear hd hFm hK
              go_simp
              exact HK.out _ _ rfl (Below.refl _ _)
            simp only [List.nil_append, List.cons_append]
            apply step_fix
            · intro a W Zs hS hFm hz hd
              have h22 := hFm.old 22 rfl
              conv at h22 => rhs; whnf
              replace h22 := ev_get hFm.size h22
              refine .inl ⟨wanted_none rfl _, fun K hK => ?_⟩
              have HK := Lib.hid hK
              clear hd hFm hK
              go_simp
              exact HK.out _ _ rfl (Below.refl _ _)
            simp only [List.nil_append, List.cons_append]
            apply step_fix
            · intro a W Zs hS hFm hz hd
              have h23 := hFm.old 23 rfl
              conv at h23 => rhs; whnf
              replace h23 := ev_get hFm.size h23
              refine .inl ⟨wanted_none rfl _, fun K hK => ?_⟩
              have HK := Lib.hid hK
              clear hd hFm hK
              go_simp
              exact HK.out _ _ rfl (Below.refl _ _)
            simp only [List.nil_append, List.cons_append]
            apply step_fix
            · intro a W Zs hS hFm hz hd
              have h24 := hFm.old 24 rfl
              conv at h24 => rhs; whnf
              replace h24 := ev_get hFm.size h24
              refine .inl ⟨wanted_none rfl _, fun K hK => ?_⟩
              have HK := Lib.hid hK
              clear hd hFm hK
              go_simp
              exact HK.out _ _ rfl (Below.refl _ _)
            simp only [List.nil_append, List.cons_append]
            apply step_fix
            · intro a W Zs hS hFm hz hd
              have h120 := ev_get hFm.size (hd 8 120 rfl rfl)
              have h121 := ev_get hFm.size (hd 9 121 rfl rfl)
              have h122 := ev_get hFm.size (hd 10 122 rfl rfl)
              have h123 := ev_get hFm.size (hd 11 123 rfl rfl)
              have h124 := ev_get hFm.size (hd 12 124 rfl rfl)
              have h125 := ev_get hFm.size (hd 13 125 rfl rfl)
              have h126 := ev_get hFm.size (hd 14 126 rfl rfl)
              refine .inl ⟨wanted_none rfl _, fun K hK => ?_⟩
              have HK := Lib.hid hK
              clear hd hFm hK
              go_simp
              refine (HA2.out _ (hRA.drew1.later hS)).mono ?_
              rintro e W' ⟨rfl, hb⟩
              exact HK.out _ _ rfl hb
            simp only [List.nil_append, List.cons_append]
            apply step_fix
            · intro a W Zs hS hFm hz hd
              have h119 := ev_get hFm.size (hd 7 119 rfl rfl)
              have h127 := ev_get hFm.size (hd 15 127 rfl rfl)
              refine .inl ⟨wanted_none rfl _, fun K hK => ?_⟩
              have HK := Lib.hid hK
              clear hd hFm hK
              go_simp
              exact HK.out _ _ rfl (Below.refl _ _)
            simp only [List.nil_append, List.cons_append]
            apply step_fix
            · intro a W Zs hS hFm hz hd
              have h128 := ev_get hFm.size (hd 16 128 rfl rfl)
              refine .inl ⟨wanted_none rfl _, fun K hK => ?_⟩
              have HK := Lib.hid hK
              clear hd hFm hK
              go_simp
              exact HK.out _ _ rfl (Below.refl _ _)
            simp only [List.nil_append, List.cons_append]
            apply step_fix
            · intro a W Zs hS hFm hz hd
              have h19 := hFm.old 19 rfl
              conv at h19 => rhs; whnf
              replace h19 := ev_get hFm.size h19
              have hq := (hD.drew1.later hS).at
              unfold confBox at hq
              refine .inl ⟨wanted_at rfl rfl (hd 17 129 rfl rfl), fun K hK => ?_⟩
              have HK := Lib.hid hK
              clear hd hFm hK
              go_simp
              exact HK.out _ _ rfl (Below.refl _ _)
            simp only [List.nil_append, List.cons_append]
            apply step_fix
            · intro a W Zs hS hFm hz hd
              have h20 := hFm.old 20 rfl
              conv at h20 => rhs; whnf
              replace h20 := ev_get hFm.size h20
              have hq := (hG.drew1.later hS).at
              unfold faBox at hq
              refine .inl ⟨wanted_at rfl rfl (hd 17 129 rfl rfl), fun K hK => ?_⟩
              have HK := Lib.hid hK
              clear hd hFm hK
              go_simp
              exact HK.out _ _ rfl (Below.refl _ _)
            simp only [List.nil_append, List.cons_append]
            apply step_fix
            · intro a W Zs hS hFm hz hd
              have h22 := hFm.old 22 rfl
              conv at h22 => rhs; whnf
              replace h22 := ev_get hFm.size h22
              refine .inl ⟨wanted_at rfl rfl (hd 17 129 rfl rfl), fun K hK => ?_⟩
              have HK := Lib.hid hK
              clear hd hFm hK
              go_simp
              exact HK.out _ _ rfl (Below.refl _ _)
            simp only [List.nil_append, List.cons_append]
            apply step_fix
            · intro a W Zs hS hFm hz hd
              have h23 := hFm.old 23 rfl
              conv at h23 => rhs; whnf
              replace h23 := ev_get hFm.size h23
              refine .inl ⟨wanted_at rfl rfl (hd 17 129 rfl rfl), fun K hK => ?_⟩
              have HK := Lib.hid hK
              clear hd hFm hK
              go_simp
              exact HK.out _ _ rfl (Below.refl _ _)
            simp only [List.nil_append, List.cons_append]
            apply step_fix
            · intro a W Zs hS hFm hz hd
              have h130 := ev_get hFm.size (hd 18 130 rfl rfl)
              have h131 := ev_get hFm.size (hd 19 131 rfl rfl)
              have h132 := ev_get hFm.size (hd 20 132 rfl rfl)
              have h133 := ev_get hFm.size (hd 21 133 rfl rfl)
              refine .inl ⟨wanted_at rfl rfl (hd 17 129 rfl rfl), fun K hK => ?_⟩
              have HK := Lib.hid hK
              clear hd hFm hK
              go_simp
              refine (HH1.out _).mono ?_
              rintro e W' ⟨rfl, hb⟩
              exact HK.out _ _ rfl hb
            simp only [List.nil_append, List.cons_append]
            apply step_fix
            · intro a W Zs hS hFm hz hd
              have h19 := hFm.old 19 rfl
              conv at h19 => rhs; whnf
              replace h19 := ev_get hFm.size h19
              have hq := (hD.drew1.later hS).at
              unfold confBox at hq
              refine .inl ⟨wanted_at rfl rfl (hd 17 129 rfl rfl), fun K hK => ?_⟩
              have HK := Lib.hid hK
              clear hd hFm hK
              go_simp
              exact HK.out _ _ rfl (Below.refl _ _)
            simp only [List.nil_append, List.cons_append]
            apply step_fix
            · intro a W Zs hS hFm hz hd
              have h20 := hFm.old 20 rfl
              conv at h20 => rhs; whnf
              replace h20 := ev_get hFm.size h20
              have hq := (hG.drew1.later hS).at
              unfold faBox at hq
              refine .inl ⟨wanted_at rfl rfl (hd 17 129 rfl rfl), fun K hK => ?_⟩
              have HK := Lib.hid hK
              clear hd hFm hK
              go_simp
              exact HK.out _ _ rfl (Below.refl _ _)
            simp only [List.nil_append, List.cons_append]
            apply step_fix
            · intro a W Zs hS hFm hz hd
              have h22 := hFm.old 22 rfl
              conv at h22 => rhs; whnf
              replace h22 := ev_get hFm.size h22
              refine .inl ⟨wanted_at rfl rfl (hd 17 129 rfl rfl), fun K hK => ?_⟩
              have HK := Lib.hid hK
              clear hd hFm hK
              go_simp
              exact HK.out _ _ rfl (Below.refl _ _)
            simp only [List.nil_append, List.cons_append]
            apply step_fix
            · intro a W Zs hS hFm hz hd
              have h23 := hFm.old 23 rfl
              conv at h23 => rhs; whnf
              replace h23 := ev_get hFm.size h23
              refine .inl ⟨wanted_at rfl rfl (hd 17 129 rfl rfl), fun K hK => ?_⟩
              have HK := Lib.hid hK
              clear hd hFm hK
              go_simp
              exact HK.out _ _ rfl (Below.refl _ _)
            simp only [List.nil_append, List.cons_append]
            apply step_fix
            · intro a W Zs hS hFm hz hd
              have h135 := ev_get hFm.size (hd 23 135 rfl rfl)
              have h136 := ev_get hFm.size (hd 24 136 rfl rfl)
              have h137 := ev_get hFm.size (hd 25 137 rfl rfl)
              have h138 := ev_get hFm.size (hd 26 138 rfl rfl)
              refine .inl ⟨wanted_at rfl rfl (hd 17 129 rfl rfl), fun K hK => ?_⟩
              have HK := Lib.hid hK
              clear hd hFm hK
              go_simp
              refine (HH2.out _).mono ?_
              rintro e W' ⟨rfl, hb⟩
              exact HK.out _ _ rfl hb
            simp only [List.nil_append, List.cons_append]
            apply step_fix
            · intro a W Zs hS hFm hz hd
              have h134 := ev_get hFm.size (hd 22 134 rfl rfl)
              have h139 := ev_get hFm.size (hd 27 139 rfl rfl)
              refine .inl ⟨wanted_at rfl rfl (hd 17 129 rfl rfl), fun K hK => ?_⟩
              have HK := Lib.hid hK
              clear hd hFm hK
              go_simp
              exact HK.out _ _ rfl (Below.refl _ _)
            simp only [List.nil_append, List.cons_append]
            apply step_fix
            · intro a W Zs hS hFm hz hd
              have h129 := ev_get hFm.size (hd 17 129 rfl rfl)
              have h140 := ev_get hFm.size (hd 28 140 rfl rfl)
              refine .inl ⟨wanted_none rfl _, fun K hK => ?_⟩
              have HK := Lib.hid hK
              clear hd hFm hK
              go_simp
              exact HK.out _ _ rfl (Below.refl _ _)
            simp only [List.nil_append, List.cons_append]
            apply step_fix
            · intro a W Zs hS hFm hz hd
              have h141 := ev_get hFm.size (hd 29 141 rfl rfl)
              refine .inl ⟨wanted_none rfl _, fun K hK => ?_⟩
              have HK := Lib.hid hK
              clear hd hFm hK
              go_simp
              exact HK.out _ _ rfl (Below.refl _ _)
            simp only [List.nil_append, List.cons_append]
            apply step_fix
            · intro a W Zs hS hFm hz hd
              have h19 := hFm.old 19 rfl
              conv at h19 => rhs; whnf
              replace h19 := ev_get hFm.size h19
              have hq := (hD.drew1.later hS).at
              unfold confBox at hq
              refine .inl ⟨wanted_at rfl rfl (hd 30 142 rfl rfl), fun K hK => ?_⟩
              have HK := Lib.hid hK
              clear hd hFm hK
              go_simp
              exact HK.out _ _ rfl (Below.refl _ _)
            simp only [List.nil_append, List.cons_append]
            apply step_fix
            · intro a W Zs hS hFm hz hd
              have h20 := hFm.old 20 rfl
              conv at h20 => rhs; whnf
              replace h20 := ev_get hFm.size h20
              have hq := (hG.drew1.later hS).at
              unfold faBox at hq
              refine .inl ⟨wanted_at rfl rfl (hd 30 142 rfl rfl), fun K hK => ?_⟩
              have HK := Lib.hid hK
              clear hd hFm hK
              go_simp
              exact HK.out _ _ rfl (Below.refl _ _)
            simp only [List.nil_append, List.cons_append]
            apply step_fix
            · intro a W Zs hS hFm hz hd
              have h27 := hFm.old 27 rfl
              conv at h27 => rhs; whnf
              replace h27 := ev_get hFm.size h27
              refine .inl ⟨wanted_at rfl rfl (hd 30 142 rfl rfl), fun K hK => ?_⟩
              have HK := Lib.hid hK
              clear hd hFm hK
              go_simp
              exact HK.out _ _ rfl (Below.refl _ _)
            simp only [List.nil_append, List.cons_append]
            apply step_fix
            · intro a W Zs hS hFm hz hd
              have h22 := hFm.old 22 rfl
              conv at h22 => rhs; whnf
              replace h22 := ev_get hFm.size h22
              refine .inl ⟨wanted_at rfl rfl (hd 30 142 rfl rfl), fun K hK => ?_⟩
              have HK := Lib.hid hK
              clear hd hFm hK
              go_simp
              exact HK.out _ _ rfl (Below.refl _ _)
            simp only [List.nil_append, List.cons_append]
            apply step_fix
            · intro a W Zs hS hFm hz hd
              have h143 := ev_get hFm.size (hd 31 143 rfl rfl)
              have h144 := ev_get hFm.size (hd 32 144 rfl rfl)
              have h145 := ev_get hFm.size (hd 33 145 rfl rfl)
              have h146 := ev_get hFm.size (hd 34 146 rfl rfl)
              refine .inl ⟨wanted_at rfl rfl (hd 30 142 rfl rfl), fun K hK => ?_⟩
              have HK := Lib.hid hK
              clear hd hFm hK
              go_simp
              refine (HB1.out _).mono ?_
              rintro e W' ⟨rfl, hb⟩
              exact HK.out _ _ rfl hb
            simp only [List.nil_append, List.cons_append]
            apply step_fix
            · intro a W Zs hS hFm hz hd
              have h19 := hFm.old 19 rfl
              conv at h19 => rhs; whnf
              replace h19 := ev_get hFm.size h19
              have hq := (hD.drew1.later hS).at
              unfold confBox at hq
              refine .inl ⟨wanted_at rfl rfl (hd 30 142 rfl rfl), fun K hK => ?_⟩
              have HK := Lib.hid hK
              clear hd hFm hK
              go_simp
              exact HK.out _ _ rfl (Below.refl _ _)
            simp only [List.nil_append, List.cons_append]
            apply step_fix
            · intro a W Zs hS hFm hz hd
              have h20 := hFm.old 20 rfl
              conv at h20 => rhs; whnf
              replace h20 := ev_get hFm.size h20
              have hq := (hG.drew1.later hS).at
              unfold faBox at hq
              refine .inl ⟨wanted_at rfl rfl (hd 30 142 rfl rfl), fun K hK => ?_⟩
              have HK := Lib.hid hK
              clear hd hFm hK
              go_simp
              exact HK.out _ _ rfl (Below.refl _ _)
            simp only [List.nil_append, List.cons_append]
            apply step_fix
            · intro a W Zs hS hFm hz hd
              have h27 := hFm.old 27 rfl
              conv at h27 => rhs; whnf
              replace h27 := ev_get hFm.size h27
              refine .inl ⟨wanted_at rfl rfl (hd 30 142 rfl rfl), fun K hK => ?_⟩
              have HK := Lib.hid hK
              clear hd hFm hK
              go_simp
              exact HK.out _ _ rfl (Below.refl _ _)
            simp only [List.nil_append, List.cons_append]
            apply step_fix
            · intro a W Zs hS hFm hz hd
              have h22 := hFm.old 22 rfl
              conv at h22 => rhs; whnf
              replace h22 := ev_get hFm.size h22
              refine .inl ⟨wanted_at rfl rfl (hd 30 142 rfl rfl), fun K hK => ?_⟩
              have HK := Lib.hid hK
              clear hd hFm hK
              go_simp
              exact HK.out _ _ rfl (Below.refl _ _)
            simp only [List.nil_append, List.cons_append]
            apply step_fix
            · intro a W Zs hS hFm hz hd
              have h148 := ev_get hFm.size (hd 36 148 rfl rfl)
              have h149 := ev_get hFm.size (hd 37 149 rfl rfl)
              have h150 := ev_get hFm.size (hd 38 150 rfl rfl)
              have h151 := ev_get hFm.size (hd 39 151 rfl rfl)
              refine .inl ⟨wanted_at rfl rfl (hd 30 142 rfl rfl), fun K hK => ?_⟩
              have HK := Lib.hid hK
              clear hd hFm hK
              go_simp
              refine (HB2.out _).mono ?_
              rintro e W' ⟨rfl, hb⟩
              exact HK.out _ _ rfl hb
            simp only [List.nil_append, List.cons_append]
            apply step_fix
            · intro a W Zs hS hFm hz hd
              have h147 := ev_get hFm.size (hd 35 147 rfl rfl)
              have h152 := ev_get hFm.size (hd 40 152 rfl rfl)
              refine .inl ⟨wanted_at rfl rfl (hd 30 142 rfl rfl), fun K hK => ?_⟩
              have HK := Lib.hid hK
              clear hd hFm hK
              go_simp
              exact HK.out _ _ rfl (Below.refl _ _)
            simp only [List.nil_append, List.cons_append]
            apply step_fix
            · intro a W Zs hS hFm hz hd
              have h142 := ev_get hFm.size (hd 30 142 rfl rfl)
              have h153 := ev_get hFm.size (hd 41 153 rfl rfl)
              refine .inl ⟨wanted_none rfl _, fun K hK => ?_⟩
              have HK := Lib.hid hK
              clear hd hFm hK
              go_simp
              exact HK.out _ _ rfl (Below.refl _ _)
            simp only [List.nil_append, List.cons_append]
            intro a w7 Zs hS hFm hz hd
            have e154 := hd 42 154 (by decide) rfl
            have e0 := hFm.old 0 rfl
            conv at e0 => rhs; whnf
            have e1 := hFm.old 1 rfl
            conv at e1 => rhs; whnf
            have e2 := hFm.old 2 rfl
            conv at e2 => rhs; whnf
            have e3 := hFm.old 3 rfl
            conv at e3 => rhs; whnf
            have e4 := hFm.old 4 rfl
            conv at e4 => rhs; whnf
            have e5 := hFm.old 5 rfl
            conv at e5 => rhs; whnf
            have e6 := hFm.old 6 rfl
            conv at e6 => rhs; whnf
            have e7 := hFm.old 7 rfl
            conv at e7 => rhs; whnf
            have e8 := hFm.old 8 rfl
            conv at e8 => rhs; whnf
            have e9 := hFm.old 9 rfl
            conv at e9 => rhs; whnf
            have e10 := hFm.old 10 rfl
            conv at e10 => rhs; whnf
            have e11 := hFm.old 11 rfl
            conv at e11 => rhs; whnf
            have e12 := hFm.old 12 rfl
            conv at e12 => rhs; whnf
            have e13 := hFm.old 13 rfl
            conv at e13 => rhs; whnf
            have e14 := hFm.old 14 rfl
            conv at e14 => rhs; whnf
            have e15 := hFm.old 15 rfl
            conv at e15 => rhs; whnf
            have e16 := hFm.old 16 rfl
            conv at e16 => rhs; whnf
            have e17 := hFm.old 17 rfl
            conv at e17 => rhs; whnf
            have e18 := hFm.old 18 rfl
            conv at e18 => rhs; whnf
            have e19 := hFm.old 19 rfl
            conv at e19 => rhs; whnf
            have e20 := hFm.old 20 rfl
            conv at e20 => rhs; whnf
            have e21 := hFm.old 21 rfl
            conv at e21 => rhs; whnf
            have e22 := hFm.old 22 rfl
            conv at e22 => rhs; whnf
            have e23 := hFm.old 23 rfl
            conv at e23 => rhs; whnf
            have e24 := hFm.old 24 rfl
            conv at e24 => rhs; whnf
            have e25 := hFm.old 25 rfl
            conv at e25 => rhs; whnf
            have e26 := hFm.old 26 rfl
            conv at e26 => rhs; whnf
            have e27 := hFm.old 27 rfl
            conv at e27 => rhs; whnf
            have e28 := hFm.old 28 rfl
            conv at e28 => rhs; whnf
            have e29 := hFm.old 29 rfl
            conv at e29 => rhs; whnf
            have e30 := hFm.old 30 rfl
            conv at e30 => rhs; whnf
            have e31 := hFm.old 31 rfl
            conv at e31 => rhs; whnf
            have e32 := hFm.old 32 rfl
            conv at e32 => rhs; whnf
            have e33 := hFm.old 33 rfl
            conv at e33 => rhs; whnf
            have e34 := hFm.old 34 rfl
            conv at e34 => rhs; whnf
            have e35 := hFm.old 35 rfl
            conv at e35 => rhs; whnf
            have e36 := hFm.old 36 rfl
            conv at e36 => rhs; whnf
            have e37 := hFm.old 37 rfl
            conv at e37 => rhs; whnf
            have e38 := hFm.old 38 rfl
            conv at e38 => rhs; whnf
            have e39 := hFm.old 39 rfl
            conv at e39 => rhs; whnf
            have e40 := hFm.old 40 rfl
            conv at e40 => rhs; whnf
            have e41 := hFm.old 41 rfl
            conv at e41 => rhs; whnf
            have e42 := hFm.old 42 rfl
            conv at e42 => rhs; whnf
            have e43 := hFm.old 43 rfl
            conv at e43 => rhs; whnf
            have e44 := hFm.old 44 rfl
            conv at e44 => rhs; whnf
            have e45 := hFm.old 45 rfl
            conv at e45 => rhs; whnf
            have e46 := hFm.old 46 rfl
            conv at e46 => rhs; whnf
            have e47 := hFm.old 47 rfl
            conv at e47 => rhs; whnf
            have e48 := hFm.old 48 rfl
            conv at e48 => rhs; whnf
            have e49 := hFm.old 49 rfl
            conv at e49 => rhs; whnf
            have e50 := hFm.old 50 rfl
            conv at e50 => rhs; whnf
            have e51 := hFm.old 51 rfl
            conv at e51 => rhs; whnf
            have e52 := hFm.old 52 rfl
            conv at e52 => rhs; whnf
            have e53 := hFm.old 53 rfl
            conv at e53 => rhs; whnf
            have e54 := hFm.old 54 rfl
            conv at e54 => rhs; whnf
            have e55 := hFm.old 55 rfl
            conv at e55 => rhs; whnf
            have e56 := hFm.old 56 rfl
            conv at e56 => rhs; whnf
            have e57 := hFm.old 57 rfl
            conv at e57 => rhs; whnf
            have e58 := hFm.old 58 rfl
            conv at e58 => rhs; whnf
            have e59 := hFm.old 59 rfl
            conv at e59 => rhs; whnf
            have e60 := hFm.old 60 rfl
            conv at e60 => rhs; whnf
            have e61 := hFm.old 61 rfl
            conv at e61 => rhs; whnf
            have e62 := hFm.old 62 rfl
            conv at e62 => rhs; whnf
            have e63 := hFm.old 63 rfl
            conv at e63 => rhs; whnf
            have e64 := hFm.old 64 rfl
            conv at e64 => rhs; whnf
            have e65 := hFm.old 65 rfl
            conv at e65 => rhs; whnf
            have e66 := hFm.old 66 rfl
            conv at e66 => rhs; whnf
            have e67 := hFm.old 67 rfl
            conv at e67 => rhs; whnf
            have e68 := hFm.old 68 rfl
            conv at e68 => rhs; whnf
            have e69 := hFm.old 69 rfl
            conv at e69 => rhs; whnf
            have e70 := hFm.old 70 rfl
            conv at e70 => rhs; whnf
            have e71 := hFm.old 71 rfl
            conv at e71 => rhs; whnf
            have e72 := hFm.old 72 rfl
            conv at e72 => rhs; whnf
            have e73 := hFm.old 73 rfl
            conv at e73 => rhs; whnf
            have e74 := hFm.old 74 rfl
            conv at e74 => rhs; whnf
            have e75 := hFm.old 75 rfl
            conv at e75 => rhs; whnf
            have e76 := hFm.old 76 rfl
            conv at e76 => rhs; whnf
            have e77 := hFm.old 77 rfl
            conv at e77 => rhs; whnf
            have e78 := hFm.old 78 rfl
            conv at e78 => rhs; whnf
            have e79 := hFm.old 79 rfl
            conv at e79 => rhs; whnf
            have e80 := hFm.old 80 rfl
            conv at e80 => rhs; whnf
            have e81 := hFm.old 81 rfl
            conv at e81 => rhs; whnf
            have e82 := hFm.old 82 rfl
            conv at e82 => rhs; whnf
            have e83 := hFm.old 83 rfl
            conv at e83 => rhs; whnf
            have e84 := hFm.old 84 rfl
            conv at e84 => rhs; whnf
            have e85 := hFm.old 85 rfl
            conv at e85 => rhs; whnf
            have e86 := hFm.old 86 rfl
            conv at e86 => rhs; whnf
            have e87 := hFm.old 87 rfl
            conv at e87 => rhs; whnf
            have e88 := hFm.old 88 rfl
            conv at e88 => rhs; whnf
            have e89 := hFm.old 89 rfl
            conv at e89 => rhs; whnf
            have e90 := hFm.old 90 rfl
            conv at e90 => rhs; whnf
            have e91 := hFm.old 91 rfl
            conv at e91 => rhs; whnf
            have e92 := hFm.old 92 rfl
            conv at e92 => rhs; whnf
            have e93 := hFm.old 93 rfl
            conv at e93 => rhs; whnf
            have e94 := hFm.old 94 rfl
            conv at e94 => rhs; whnf
            have e95 := hFm.old 95 rfl
            conv at e95 => rhs; whnf
            have e96 := hFm.old 96 rfl
            conv at e96 => rhs; whnf
            have e97 := hFm.old 97 rfl
            conv at e97 => rhs; whnf
            have e98 := hFm.old 98 rfl
            conv at e98 => rhs; whnf
            have e99 := hFm.old 99 rfl
            conv at e99 => rhs; whnf
            have e100 := hFm.old 100 rfl
            conv at e100 => rhs; whnf
            have e101 := hFm.old 101 rfl
            conv at e101 => rhs; whnf
            have e102 := hFm.old 102 rfl
            conv at e102 => rhs; whnf
            have e103 := hFm.old 103 rfl
            conv at e103 => rhs; whnf
            have e104 := hFm.old 104 rfl
            conv at e104 => rhs; whnf
            have e105 := hFm.old 105 rfl
            conv at e105 => rhs; whnf
            have e106 := hFm.old 106 rfl
            conv at e106 => rhs; whnf
            have e107 := hFm.old 107 rfl
            conv at e107 => rhs; whnf
            have e108 := hFm.old 108 rfl
            conv at e108 => rhs; whnf
            have e109 := hFm.old 109 rfl
            conv at e109 => rhs; whnf
            have e110 := hFm.old 110 rfl
            conv at e110 => rhs; whnf
            have e111 := hFm.old 111 rfl
            conv at e111 => rhs; whnf
            have hsz := hFm.size
            have hdf := hFm.defers
            clear hd hFm
            obtain ⟨t, df⟩ := a
            simp only at hsz hdf
            subst hdf
            obtain ⟨x, hx⟩ : ∃ x : Nat → Value, ∀ i, t.getD i undef = x i := ⟨fun i => t.getD i undef, fun _ => rfl⟩
            have h154 := (hx 154).symm.trans e154
            have h0 := (hx 0).symm.trans e0
            have h1 := (hx 1).symm.trans e1
            have h2 := (hx 2).symm.trans e2
            have h3 := (hx 3).symm.trans e3
            have h4 := (hx 4).symm.trans e4
            have h5 := (hx 5).symm.trans e5
            have h6 := (hx 6).symm.trans e6
            have h7 := (hx 7).symm.trans e7
            have h8 := (hx 8).symm.trans e8
            have h9 := (hx 9).symm.trans e9
            have h10 := (hx 10).symm.trans e10
            have h11 := (hx 11).symm.trans e11
            have h12 := (hx 12).symm.trans e12
            have h13 := (hx 13).symm.trans e13
            have h14 := (hx 14).symm.trans e14
            have h15 := (hx 15).symm.trans e15
            have h16 := (hx 16).symm.trans e16
            have h17 := (hx 17).symm.trans e17
            have h18 := (hx 18).symm.trans e18
            have h19 := (hx 19).symm.trans e19
            have h20 := (hx 20).symm.trans e20
            have h21 := (hx 21).symm.trans e21
            have h22 := (hx 22).symm.trans e22
            have h23 := (hx 23).symm.trans e23
            have h24 := (hx 24).symm.trans e24
            have h25 := (hx 25).symm.trans e25
            have h26 := (hx 26).symm.trans e26
            have h27 := (hx 27).symm.trans e27
            have h28 := (hx 28).symm.trans e28
            have h29 := (hx 29).symm.trans e29
            have h30 := (hx 30).symm.trans e30
            have h31 := (hx 31).symm.trans e31
            have h32 := (hx 32).symm.trans e32
            have h33 := (hx 33).symm.trans e33
            have h34 := (hx 34).symm.trans e34
            have h35 := (hx 35).symm.trans e35
            have h36 := (hx 36).symm.trans e36
            have h37 := (hx 37).symm.trans e37
            have h38 := (hx 38).symm.trans e38
            have h39 := (hx 39).symm.trans e39
            have h40 := (hx 40).symm.trans e40
            have h41 := (hx 41).symm.trans e41
            have h42 := (hx 42).symm.trans e42
            have h43 := (hx 43).symm.trans e43
            have h44 := (hx 44).symm.trans e44
            have h45 := (hx 45).symm.trans e45
            have h46 := (hx 46).symm.trans e46
            have h47 := (hx 47).symm.trans e47
            have h48 := (hx 48).symm.trans e48
            have h49 := (hx 49).symm.trans e49
            have h50 := (hx 50).symm.trans e50
            have h51 := (hx 51).symm.trans e51
            have h52 := (hx 52).symm.trans e52
            have h53 := (hx 53).symm.trans e53
            have h54 := (hx 54).symm.trans e54
            have h55 := (hx 55).symm.trans e55
            have h56 := (hx 56).symm.trans e56
            have h57 := (hx 57).symm.trans e57
            have h58 := (hx 58).symm.trans e58
            have h59 := (hx 59).symm.trans e59
            have h60 := (hx 60).symm.trans e60
            have h61 := (hx 61).symm.trans e61
            have h62 := (hx 62).symm.trans e62
            have h63 := (hx 63).symm.trans e63
            have h64 := (hx 64).symm.trans e64
            have h65 := (hx 65).symm.trans e65
            have h66 := (hx 66).symm.trans e66
            have h67 := (hx 67).symm.trans e67
            have h68 := (hx 68).symm.trans e68
            have h69 := (hx 69).symm.trans e69
            have h70 := (hx 70).symm.trans e70
            have h71 := (hx 71).symm.trans e71
            have h72 := (hx 72).symm.trans e72
            have h73 := (hx 73).symm.trans e73
            have h74 := (hx 74).symm.trans e74
            have h75 := (hx 75).symm.trans e75
            have h76 := (hx 76).symm.trans e76
            have h77 := (hx 77).symm.trans e77
            have h78 := (hx 78).symm.trans e78
            have h79 := (hx 79).symm.trans e79
            have h80 := (hx 80).symm.trans e80
            have h81 := (hx 81).symm.trans e81
            have h82 := (hx 82).symm.trans e82
            have h83 := (hx 83).symm.trans e83
            have h84 := (hx 84).symm.trans e84
            have h85 := (hx 85).symm.trans e85
            have h86 := (hx 86).symm.trans e86
            have h87 := (hx 87).symm.trans e87
            have h88 := (hx 88).symm.trans e88
            have h89 := (hx 89).symm.trans e89
            have h90 := (hx 90).symm.trans e90
            have h91 := (hx 91).symm.trans e91
            have h92 := (hx 92).symm.trans e92
            have h93 := (hx 93).symm.trans e93
            have h94 := (hx 94).symm.trans e94
            have h95 := (hx 95).symm.trans e95
            have h96 := (hx 96).symm.trans e96
            have h97 := (hx 97).symm.trans e97
            have h98 := (hx 98).symm.trans e98
            have h99 := (hx 99).symm.trans e99
            have h100 := (hx 100).symm.trans e100
            have h101 := (hx 101).symm.trans e101
            have h102 := (hx 102).symm.trans e102
            have h103 := (hx 103).symm.trans e103
            have h104 := (hx 104).symm.trans e104
            have h105 := (hx 105).symm.trans e105
            have h106 := (hx 106).symm.trans e106
            have h107 := (hx 107).symm.trans e107
            have h108 := (hx 108).symm.trans e108
            have h109 := (hx 109).symm.trans e109
            have h110 := (hx 110).symm.trans e110
            have h111 := (hx 111).symm.trans e111
            have ht' : t = #[x 0, x 1, x 2, x 3, x 4, x 5, x 6, x 7, x 8, x 9, x 10, x 11, x 12, x 13, x 14, x 15, x 16, x 17, x 18, x 19, x 20, x 21, x 22, x 23, x 24, x 25, x 26, x 27, x 28, x 29, x 30, x 31, x 32, x 33, x 34, x 35, x 36, x 37, x 38, x 39, x 40, x 41, x 42, x 43, x 44, x 45, x 46, x 47, x 48, x 49, x 50, x 51, x 52, x 53, x 54, x 55, x 56, x 57, x 58, x 59, x 60, x 61, x 62, x 63, x 64, x 65, x 66, x 67, x 68, x 69, x 70, x 71, x 72, x 73, x 74, x 75, x 76, x 77, x 78, x 79, x 80, x 81, x 82, x 83, x 84, x 85, x 86, x 87, x 88, x 89, x 90, x 91, x 92, x 93, x 94, x 95, x 96, x 97, x 98, x 99, x 100, x 101, x 102, x 103, x 104, x 105, x 106, x 107, x 108, x 109, x 110, x 111, x 112, x 113, x 114, x 115, x 116, x 117, x 118, x 119, x 120, x 121, x 122, x 123, x 124, x 125, x 126, x 127, x 128, x 129, x 130, x 131, x 132, x 133, x 134, x 135, x 136, x 137, x 138, x 139, x 140, x 141, x 142, x 143, x 144, x 145, x 146, x 147, x 148, x 149, x 150, x 151, x 152, x 153, x 154] := frame_lit t 155 hsz x hx
            clear hx hsz hz e154 e0 e1 e2 e3 e4 e5 e6 e7 e8 e9 e10 e11 e12 e13 e14 e15 e16 e17 e18 e19 e20 e21 e22 e23 e24 e25 e26 e27 e28 e29 e30 e31 e32 e33 e34 e35 e36 e37 e38 e39 e40 e41 e42 e43 e44 e45 e46 e47 e48 e49 e50 e51 e52 e53 e54 e55 e56 e57 e58 e59 e60 e61 e62 e63 e64 e65 e66 e67 e68 e69 e70 e71 e72 e73 e74 e75 e76 e77 e78 e79 e80 e81 e82 e83 e84 e85 e86 e87 e88 e89 e90 e91 e92 e93 e94 e95 e96 e97 e98 e99 e100 e101 e102 e103 e104 e105 e106 e107 e108 e109 e110 e111
            subst ht'
            dsimp only
            rw [h154, h0, h1, h2, h3, h4, h5, h6, h7, h8, h9, h10, h11, h12, h13, h14, h15, h16, h17, h18, h19, h20, h21, h22, h23, h24, h25, h26, h27, h28, h29, h30, h31, h32, h33, h34, h35, h36, h37, h38, h39, h40, h41, h42, h43, h44, h45, h46, h47, h48, h49, h50, h51, h52, h53, h54, h55, h56, h57, h58, h59, h60, h61, h62, h63, h64, h65, h66, h67, h68, h69, h70, h71, h72, h73, h74, h75, h76, h77, h78, h79, h80, h81, h82, h83, h84, h85, h86, h87, h88, h89, h90, h91, h92, h93, h94, h95, h96, h97, h98, h99, h100, h101, h102, h103, h104, h105, h106, h107, h108, h109, h110, h111]
            clear h154 h0 h1 h2 h3 h4 h5 h6 h7 h8 h9 h10 h11 h12 h13 h14 h15 h16 h17 h18 h19 h20 h21 h22 h23 h24 h25 h26 h27 h28 h29 h30 h31 h32 h33 h34 h35 h36 h37 h38 h39 h40 h41 h42 h43 h44 h45 h46 h47 h48 h49 h50 h51 h52 h53 h54 h55 h56 h57 h58 h59 h60 h61 h62 h63 h64 h65 h66 h67 h68 h69 h70 h71 h72 h73 h74 h75 h76 h77 h78 h79 h80 h81 h82 h83 h84 h85 h86 h87 h88 h89 h90 h91 h92 h93 h94 h95 h96 h97 h98 h99 h100 h101 h102 h103 h104 h105 h106 h107 h108 h109 h110 h111
            have hb := from_drew hS
            replace hB := hB.trans (hb.mono hB.size)
            replace hD := hD.later hb
            replace hG := hG.later hb
            replace hRA := hRA.later hb
            replace q25 := q25.later hb
            clear hS hb
            go_wp2
            go_roundw
            case rel => exact ⟨k + 1, by go_num, by omega, hB, hD, hG, hRA, q25⟩
            case measure => simp [intOf]; omega
          · have d3 : decide (k < 3) = false := by simpa using hlt
            have d3' : decide ((k : Int) < 3) = false := by simp; omega
            go_wp2
            go_ret
            exact ⟨rfl, hB⟩

end Go.Proofs.YtbghpkdkfbpmeaaGreat
/-
  FaultEmits answers true for every input, and leaves its arguments as they were. No condition.
-/
namespace Go.Proofs.YtbghpkdkfbpmeaaGreat
open Go.ChangeShapes Go.WideShapes Go.ChangeAt Go.RowKit Plait
set_option maxRecDepth 100000
open Go.ChangeMaps (open_string shut_string)
set_option linter.unusedVariables false

set_option maxRecDepth 100000 in
theorem faultEmits_lifted (os : Os) (started : os.Started) (H : Type) (enc : TypeId × Value → H) :
    ReturnsInHanded {} Tryz.checked os 3 .any (Rows.faultEmitsSpec.pre6 enc Tryz.prog Tryz.f3 Rows.faultEmitsRow.domain false) (Rows.faultEmitsSpec.post enc Tryz.prog Tryz.f3 false true false false) := by
  refine returnsInHanded_of_change (C := Tryz.checked) own started (by kernel_rfl) Tryz.func3
    (ChangeSpec.witness6 (enc := enc) (C := Tryz.checked) false ⟨#[], #[.agg #[.int .i64 0, .int .i64 0, .int .i64 0, .int .i64 0, .int .i64 0, .slice none 0 0], .agg #[.int .i64 0, .int .i64 0, .int .i64 0, .int .i64 0, .slice none 0 0, .slice none 0 0], .int .i64 0, .int .i64 0, .int .i64 0, .int .i64 0, .agg #[.int .i64 0, .int .i64 0, .int .i64 0, .int .i64 0, .int .i64 0, .slice none 0 0], .slice none 0 0, .int .i64 0], []⟩ 8 (by kernel_rfl) (by kernel_rfl) (by kernel_rfl) (by kernel_rfl)) ?_
  intro W base args ds gs before hval0 hW hcnd _
  have hval : ∀ (j : Nat) t v, Tryz.f3.params[j]? = some t → args[j]? = some v → Value.okWide Tryz.prog W .any base t v := hval0
  have hW' := hW
  obtain ⟨p, q, hA0, hV, rfl, hfz, hnd⟩ := hW
  have hA : DataW.TrodAll enc Tryz.prog W 0 (fun _ => true) true Tryz.f3.params.toList args.toList ds p := hA0
  rw [Tryz.params3] at hA hval
  obtain ⟨v0, vs0, d0, ds0, p0, q0, hargs, rfl, rfl, h0, r0⟩ := trodAll_cons hA
  obtain ⟨v1, vs1, d1, ds1, p1, q1, rfl, rfl, rfl, h1, r1⟩ := trodAll_cons r0
  obtain ⟨v2, vs2, d2, ds2, p2, q2, rfl, rfl, rfl, h2, r2⟩ := trodAll_cons r1
  obtain ⟨v3, vs3, d3, ds3, p3, q3, rfl, rfl, rfl, h3, r3⟩ := trodAll_cons r2
  obtain ⟨v4, vs4, d4, ds4, p4, q4, rfl, rfl, rfl, h4, r4⟩ := trodAll_cons r3
  obtain ⟨v5, vs5, d5, ds5, p5, q5, rfl, rfl, rfl, h5, r5⟩ := trodAll_cons r4
  obtain ⟨v6, vs6, d6, ds6, p6, q6, rfl, rfl, rfl, h6, r6⟩ := trodAll_cons r5
  obtain ⟨v7, vs7, d7, ds7, p7, q7, rfl, rfl, rfl, h7, r7⟩ := trodAll_cons r6
  obtain ⟨v8, vs8, d8, ds8, p8, q8, rfl, rfl, rfl, h8, r8⟩ := trodAll_cons r7
  obtain ⟨rfl, rfl, rfl⟩ := trodAll_nil r8
  obtain rfl : args = #[v0, v1, v2, v3, v4, v5, v6, v7, v8] := by cases args; simp_all
  obtain ⟨rfl, rfl⟩ := trodVars_none hV
  have k0 := h0
  have lt0 : ∀ x ∈ p0, x.block < W.heap.size := by obtain ⟨m, hm⟩ := k0; exact DataW.trod_lt m _ _ _ hm
  obtain ⟨c0, a0, cap0, rfl, w0, i0a, i0b, i0c, i0d, i0e⟩ := open_conf (hval 0 24 v0 rfl rfl) h0
  have k1 := h1
  have lt1 : ∀ x ∈ p1, x.block < W.heap.size := by obtain ⟨m, hm⟩ := k1; exact DataW.trod_lt m _ _ _ hm
  obtain ⟨c1, a1, cap1, e1, ecap1, rfl, w1, u1, i1a, i1b, i1c, i1d⟩ := open_fault (hval 1 27 v1 rfl rfl) h1
  obtain ⟨a2, rfl, rfl, rfl, w2⟩ := open_int Tryz.underlying3 (hval 2 3 v2 rfl rfl) h2
  obtain ⟨a3, rfl, rfl, rfl, w3⟩ := open_int Tryz.underlying3 (hval 3 3 v3 rfl rfl) h3
  obtain ⟨a4, rfl, rfl, rfl, w4⟩ := open_int Tryz.underlying3 (hval 4 3 v4 rfl rfl) h4
  obtain ⟨a5, rfl, rfl, rfl, w5⟩ := open_int Tryz.underlying3 (hval 5 3 v5 rfl rfl) h5
  have k6 := h6
  have lt6 : ∀ x ∈ p6, x.block < W.heap.size := by obtain ⟨m, hm⟩ := k6; exact DataW.trod_lt m _ _ _ hm
  obtain ⟨c6, a6, cap6, rfl, w6, i6a, i6b, i6c, i6d, i6e⟩ := open_frame (hval 6 32 v6 rfl rfl) h6
  have k7 := h7
  have lt7 : ∀ x ∈ p7, x.block < W.heap.size := by obtain ⟨m, hm⟩ := k7; exact DataW.trod_lt m _ _ _ hm
  obtain ⟨a7, len7, cap7, rfl⟩ := okWide_slice Tryz.underlying22 (hval 7 22 v7 rfl rfl)
  obtain ⟨z7, e7, w7⟩ : ∃ zs : List Int, len7 = zs.length ∧ Row W a7 zs := by
    obtain ⟨fuel, hf⟩ := h7
    rcases open_ints Tryz.underlying22 Tryz.underlying3 (by kernel_rfl) hf with ⟨hcs, _⟩ | ⟨x, l, c, zs, hcs, _, hl, hm, hz, _, hcell, hwz⟩
    · simp [Value.cells] at hcs
      obtain ⟨rfl, rfl, rfl⟩ := hcs
      exact row_nil W
    · simp [Value.cells] at hcs
      obtain ⟨rfl, rfl, rfl⟩ := hcs
      exact row_of hl hm (by rw [hz]; split <;> omega) hcell hwz
  subst e7
  obtain ⟨a8, rfl, rfl, rfl, w8⟩ := open_int Tryz.underlying3 (hval 8 3 v8 rfl rfl) h8
  clear hA0 hval0
  refine (faultEmits_walk c0 a0 cap0 c1 a1 cap1 e1 ecap1 a2 a3 a4 a5 c6 a6 cap6 a7 z7 cap7 a8 W w0 i0a i0b i0c i0d i0e w1 u1 i1a i1b i1c i1d (wf_lo w2) (wf_hi w2) (wf_lo w3) (wf_hi w3) (wf_lo w4) (wf_hi w4) (wf_lo w5) (wf_hi w5) w6 i6a i6b i6c i6d i6e w7 (wf_lo w8) (wf_hi w8)).mono fun e W' ⟨he, bel⟩ => ?_
  subst he
  exact ⟨_, rfl, _, _, _, [], _, [], hW', trodAll_mk1 (shut_bool Tryz.underlying4 _), (trodAll_cons_mk (Below.trod laidOut (by kernel_rfl) (of_decide_eq_true (by kernel_rfl)) k0 bel lt0) (trodAll_cons_mk (Below.trod laidOut (by kernel_rfl) (of_decide_eq_true (by kernel_rfl)) k1 bel lt1) (trodAll_cons_mk (shut_int Tryz.underlying3 w2) (trodAll_cons_mk (shut_int Tryz.underlying3 w3) (trodAll_cons_mk (shut_int Tryz.underlying3 w4) (trodAll_cons_mk (shut_int Tryz.underlying3 w5) (trodAll_cons_mk (Below.trod laidOut (by kernel_rfl) (of_decide_eq_true (by kernel_rfl)) k6 bel lt6) (trodAll_cons_mk (Below.trod laidOut (by kernel_rfl) (of_decide_eq_true (by kernel_rfl)) k7 bel lt7) (trodAll_cons_mk (shut_int Tryz.underlying3 w8) trodAll_mk0))))))))), rfl, bel.frame _, fun h => by cases h⟩

theorem faultEmits_over : Rows.faultEmitsRow.holds Tryz.pinned (OpenSpec.ofChange Rows.faultEmitsSpec) :=
  OpenClaim.holds_of_wide 3 Tryz.f3 rfl rfl rfl rfl rfl rfl rfl ⟨rfl, rfl, rfl, rfl, rfl⟩ rfl rfl rfl rfl rfl (by kernel_rfl) Tryz.func3 (by kernel_rfl)
    (of_decide_eq_true (by kernel_rfl)) (by unfold Func.isWrapper; first | (rw [if_pos (by decide +kernel)]; kernel_rfl) | (rw [if_neg (by decide +kernel)]; exact ⟨rfl, rfl⟩))
    (fun os started H enc _ => faultEmits_lifted os started H enc)

theorem faultEmits_holds : Rows.FaultEmitsSaid := faultEmits_over
#print axioms faultEmits_holds
end Go.Proofs.YtbghpkdkfbpmeaaGreat

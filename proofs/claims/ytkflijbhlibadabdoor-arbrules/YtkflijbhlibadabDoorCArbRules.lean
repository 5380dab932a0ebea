/-
  ArbRules answers true for every input, and leaves its arguments as they were; the package's table of bounds is tied to the program's text. No condition.
-/
import Derived.Test.YtkflijbhlibadabDoorCArbRulesx1
import Derived.Test.YtkflijbhlibadabDoorK9
import Derived.Test.YtkflijbhlibadabDoorTie
import Derived.Test.YtkflijbhlibadabDoorCards
/-
  ArbRules' walk: ways 5, 6, 7.
-/
namespace Go.Proofs.YtkflijbhlibadabDoor
open Go.RowKit Plait
set_option maxRecDepth 100000
set_option linter.unusedVariables false
set_option linter.unusedSimpArgs false


set_option maxHeartbeats 16000000 in
theorem arbRules_wC (c : Cf) (a : Option Addr) (cap : Nat) (f : Fr) (fa : Option Addr) (fc : Nat) (g : Fr) (ga : Option Addr) (gc : Nat) (na : Option Addr) (ns : List Int) (nc : Nat) (ma : Option Addr) (ms : List Int) (mc : Nat) (wh rd : Int) (w : World) (hbd : Bnds w)
    (hrow : Row w a c.P) (iN : inI c.N) (iP : inI c.Pi) (iE : inI c.E) (iG : inI c.G) (iF : inI c.F) (hfE : RowT w fa f.E) (iK : inI f.K) (iR : inI f.R) (iS : inI f.S) (iQ : inI f.P.K) (iV : inI f.P.V) (hgE : RowT w ga g.E) (jK : inI g.K) (jR : inI g.R) (jS : inI g.S) (jQ : inI g.P.K) (jV : inI g.P.V)
    (hns : Row w na ns) (hms : Row w ma ms) (o1 : -9223372036854775808 ≤ wh) (o2 : wh ≤ 9223372036854775807) (r1 : -9223372036854775808 ≤ rd) (r2 : rd ≤ 9223372036854775807) (hz : wh % 10 = 5 ∨ wh % 10 = 6 ∨ wh % 10 = 7) :
    Calls Tryd.prog 5 #[.agg #[.int .i64 c.N, .int .i64 c.Pi, .int .i64 c.E, .int .i64 c.G, .int .i64 c.F, .slice a c.P.length cap], .agg #[.int .i64 f.K, .int .i64 f.R, .int .i64 f.S, .int .i64 f.P.K, .int .i64 f.P.V, .slice fa f.E.length fc], .agg #[.int .i64 g.K, .int .i64 g.R, .int .i64 g.S, .int .i64 g.P.K, .int .i64 g.P.V, .slice ga g.E.length gc], .slice na ns.length nc, .slice ma ms.length mc, .int .i64 wh, .int .i64 rd] w fun e w' => e = .returned (.bool true) ∧ Below w.heap.size w w' := by
  have HZ := Lib.hid hz
  clear hz
  have hB : Below w.heap.size w (((w.alloc (.cells #[.int .i64 c.N, .int .i64 c.Pi, .int .i64 c.E, .int .i64 c.G, .int .i64 c.F, .slice a c.P.length cap] 24)).alloc (.cells #[.int .i64 f.K, .int .i64 f.R, .int .i64 f.S, .int .i64 f.P.K, .int .i64 f.P.V, .slice fa f.E.length fc] 29)).alloc (.cells #[.int .i64 g.K, .int .i64 g.R, .int .i64 g.S, .int .i64 g.P.K, .int .i64 g.P.V, .slice ga g.E.length gc] 29)) := ((alloc_below w _).alloc (by simp) _).alloc (by simp; omega) _
  have hC : Blk (((w.alloc (.cells #[.int .i64 c.N, .int .i64 c.Pi, .int .i64 c.E, .int .i64 c.G, .int .i64 c.F, .slice a c.P.length cap] 24)).alloc (.cells #[.int .i64 f.K, .int .i64 f.R, .int .i64 f.S, .int .i64 f.P.K, .int .i64 f.P.V, .slice fa f.E.length fc] 29)).alloc (.cells #[.int .i64 g.K, .int .i64 g.R, .int .i64 g.S, .int .i64 g.P.K, .int .i64 g.P.V, .slice ga g.E.length gc] 29)) w.heap.size 24 (confBox c a cap) := ((Blk.new w _ _).alloc _).alloc _
  have hF : Blk (((w.alloc (.cells #[.int .i64 c.N, .int .i64 c.Pi, .int .i64 c.E, .int .i64 c.G, .int .i64 c.F, .slice a c.P.length cap] 24)).alloc (.cells #[.int .i64 f.K, .int .i64 f.R, .int .i64 f.S, .int .i64 f.P.K, .int .i64 f.P.V, .slice fa f.E.length fc] 29)).alloc (.cells #[.int .i64 g.K, .int .i64 g.R, .int .i64 g.S, .int .i64 g.P.K, .int .i64 g.P.V, .slice ga g.E.length gc] 29)) (w.heap.size + 1) 29 (frBox f fa fc) := (Blk.newAt _ _ (by simp)).alloc _
  have hG : Blk (((w.alloc (.cells #[.int .i64 c.N, .int .i64 c.Pi, .int .i64 c.E, .int .i64 c.G, .int .i64 c.F, .slice a c.P.length cap] 24)).alloc (.cells #[.int .i64 f.K, .int .i64 f.R, .int .i64 f.S, .int .i64 f.P.K, .int .i64 f.P.V, .slice fa f.E.length fc] 29)).alloc (.cells #[.int .i64 g.K, .int .i64 g.R, .int .i64 g.S, .int .i64 g.P.K, .int .i64 g.P.V, .slice ga g.E.length gc] 29)) (w.heap.size + 1 + 1) 29 (frBox g ga gc) := Blk.newAt _ _ (by simp)
  go_enter Tryd.func5, Tryd.ntmps5
  go_upto_region 1 with fail
  generalize (((w.alloc (.cells #[.int .i64 c.N, .int .i64 c.Pi, .int .i64 c.E, .int .i64 c.G, .int .i64 c.F, .slice a c.P.length cap] 24)).alloc (.cells #[.int .i64 f.K, .int .i64 f.R, .int .i64 f.S, .int .i64 f.P.K, .int .i64 f.P.V, .slice fa f.E.length fc] 29)).alloc (.cells #[.int .i64 g.K, .int .i64 g.R, .int .i64 g.S, .int .i64 g.P.K, .int .i64 g.P.V, .slice ga g.E.length gc] 29)) = w1 at *
  go_wp2_with fail
  refine (known10_any _ (hbd.later hB)).mono ?_
  rintro e w2 ⟨rfl, hb⟩
  replace hB := hB.trans (hb.mono hB.size)
  replace hC := hC.later hb
  replace hF := hF.later hb
  replace hG := hG.later hb
  clear hb
  have qC := hC.at
  unfold confBox at qC
  go_wp2_with fail
  refine (make_any c a cap _ (hrow.later hB)).mono ?_
  rintro e wm ⟨da, dc, rfl, hrd, hfd, hb⟩
  have hwl := hG.lt
  replace hB := hB.trans (hb.mono hB.size)
  replace hF := hF.later hb
  replace hG := hG.later hb
  replace hfd : ∀ x, da = some x → w.heap.size + 1 + 1 < x.block := fun x hx => by have := hfd x hx; omega
  clear hb qC hC
  have hok := makeC_ok c
  generalize makeC c = d at *
  have hdl := hG.lt
  have hdn := hrd.ltR
  have hD : Blk (wm.alloc (.cells #[.int .i64 d.N, .int .i64 d.Pi, .int .i64 d.E, .int .i64 d.G, .int .i64 d.F, .slice da d.P.length dc] 24)) wm.heap.size 24 (confBox d da dc) := Blk.new wm _ _
  replace hB := hB.alloc hB.size (.cells #[.int .i64 d.N, .int .i64 d.Pi, .int .i64 d.E, .int .i64 d.G, .int .i64 d.F, .slice da d.P.length dc] 24)
  replace hF := hF.alloc (.cells #[.int .i64 d.N, .int .i64 d.Pi, .int .i64 d.E, .int .i64 d.G, .int .i64 d.F, .slice da d.P.length dc] 24)
  replace hG := hG.alloc (.cells #[.int .i64 d.N, .int .i64 d.Pi, .int .i64 d.E, .int .i64 d.G, .int .i64 d.F, .slice da d.P.length dc] 24)
  replace hrd := hrd.alloc (.cells #[.int .i64 d.N, .int .i64 d.Pi, .int .i64 d.E, .int .i64 d.G, .int .i64 d.F, .slice da d.P.length dc] 24)
  go_upto_region 4 with fail
  generalize wm.alloc (.cells #[.int .i64 d.N, .int .i64 d.Pi, .int .i64 d.E, .int .i64 d.G, .int .i64 d.F, .slice da d.P.length dc] 24) = wn at *
  generalize wm.heap.size = db at *
  go_wp2_with fail
  refine (within10_any rd 100 _ (by omega) (by omega)).mono ?_
  rintro e wl ⟨rfl, rfl⟩
  have x0 := Int.emod_nonneg rd (show (100 : Int) ≠ 0 by omega)
  have x1 := Int.emod_lt_of_pos rd (show (0 : Int) < 100 by omega)
  generalize rd % 100 = r at *
  have fF := hF.frozen
  have qF := hF.at
  unfold frBox at qF
  have fG := hG.frozen
  have qG := hG.at
  unfold frBox at qG
  go_upto_region 6 with fail
  clear fF qF fG qG
  obtain ⟨f1, hf1⟩ : ∃ f1 : Fr, f1 = { f with K := 2 } := ⟨_, rfl⟩
  obtain ⟨g1, hg1⟩ : ∃ g1 : Fr, g1 = { g with K := 2 } := ⟨_, rfl⟩
  have hF1 : Blk ((wn.setCell ⟨w.heap.size + 1, 0, none⟩ (.int .i64 2)).setCell ⟨w.heap.size + 1 + 1, 0, none⟩ (.int .i64 2)) (w.heap.size + 1) 29 (frBox f1 fa fc) := by
    subst hf1
    exact (hF.set 0 _).far (p := ⟨w.heap.size + 1 + 1, 0, none⟩) (by show w.heap.size + 1 ≠ w.heap.size + 1 + 1; omega) _
  have hG1 : Blk ((wn.setCell ⟨w.heap.size + 1, 0, none⟩ (.int .i64 2)).setCell ⟨w.heap.size + 1 + 1, 0, none⟩ (.int .i64 2)) (w.heap.size + 1 + 1) 29 (frBox g1 ga gc) := by
    subst hg1
    exact (hG.far (p := ⟨w.heap.size + 1, 0, none⟩) (by show w.heap.size + 1 + 1 ≠ w.heap.size + 1; omega) _).set 0 _
  replace hD := (hD.far (p := ⟨w.heap.size + 1, 0, none⟩) (by show db ≠ w.heap.size + 1; omega) (.int .i64 2)).far (p := ⟨w.heap.size + 1 + 1, 0, none⟩) (by show db ≠ w.heap.size + 1 + 1; omega) (.int .i64 2)
  replace hrd := (hrd.farR (w.heap.size + 1) 0 (.int .i64 2) (.inr fun x hx => by have := hfd x hx; omega)).farR (w.heap.size + 1 + 1) 0 (.int .i64 2) (.inr fun x hx => by have := hfd x hx; omega)
  replace hB := (hB.setCell (p := ⟨w.heap.size + 1, 0, none⟩) (by show w.heap.size ≤ w.heap.size + 1; omega) (.int .i64 2)).setCell (p := ⟨w.heap.size + 1 + 1, 0, none⟩) (by show w.heap.size ≤ w.heap.size + 1 + 1; omega) (.int .i64 2)
  have jf1 : inI f1.K := by subst hf1; exact ⟨by show (_ : Int) ≤ 2; omega, by show (2 : Int) ≤ _; omega⟩
  have jg1 : inI g1.K := by subst hg1; exact ⟨by show (_ : Int) ≤ 2; omega, by show (2 : Int) ≤ _; omega⟩
  have iR1 : inI f1.R := by subst hf1; exact iR
  have iV1 : inI f1.P.V := by subst hf1; exact iV
  have jR1 : inI g1.R := by subst hg1; exact jR
  have jV1 : inI g1.P.V := by subst hg1; exact jV
  have iS1 : inI f1.S := by subst hf1; exact iS
  clear hF hG hf1 hg1
  generalize (wn.setCell ⟨w.heap.size + 1, 0, none⟩ (.int .i64 2)).setCell ⟨w.heap.size + 1 + 1, 0, none⟩ (.int .i64 2) = wn at *
  have fF := hF1.frozen
  have qF := hF1.at
  unfold frBox at qF
  have fG := hG1.frozen
  have qG := hG1.at
  unfold frBox at qG
  go_wp2_with fail
  refine (within10_any f1.S 6 _ (by unfold inI at iS1; omega) (by omega)).mono ?_
  rintro e wl ⟨rfl, rfl⟩
  have y0 := Int.emod_nonneg f1.S (show (6 : Int) ≠ 0 by omega)
  have y1 := Int.emod_lt_of_pos f1.S (show (0 : Int) < 6 by omega)
  generalize f1.S % 6 = s6 at *
  go_upto_region 8 with fail
  clear fF qF fG qG iS1
  have hF := hF1
  have hG := hG1
  clear hF1 hG1
  obtain ⟨f2, hf2⟩ : ∃ f2 : Fr, f2 = { f1 with S := s6 } := ⟨_, rfl⟩
  obtain ⟨g2, hg2⟩ : ∃ g2 : Fr, g2 = { g1 with S := s6 } := ⟨_, rfl⟩
  have hF2 : Blk ((wn.setCell ⟨w.heap.size + 1, 2, none⟩ (.int .i64 s6)).setCell ⟨w.heap.size + 1 + 1, 2, none⟩ (.int .i64 s6)) (w.heap.size + 1) 29 (frBox f2 fa fc) := by
    subst hf2
    exact (hF.set 2 _).far (p := ⟨w.heap.size + 1 + 1, 2, none⟩) (by show w.heap.size + 1 ≠ w.heap.size + 1 + 1; omega) _
  have hG2 : Blk ((wn.setCell ⟨w.heap.size + 1, 2, none⟩ (.int .i64 s6)).setCell ⟨w.heap.size + 1 + 1, 2, none⟩ (.int .i64 s6)) (w.heap.size + 1 + 1) 29 (frBox g2 ga gc) := by
    subst hg2
    exact (hG.far (p := ⟨w.heap.size + 1, 2, none⟩) (by show w.heap.size + 1 + 1 ≠ w.heap.size + 1; omega) _).set 2 _
  replace hD := (hD.far (p := ⟨w.heap.size + 1, 2, none⟩) (by show db ≠ w.heap.size + 1; omega) (.int .i64 s6)).far (p := ⟨w.heap.size + 1 + 1, 2, none⟩) (by show db ≠ w.heap.size + 1 + 1; omega) (.int .i64 s6)
  replace hrd := (hrd.farR (w.heap.size + 1) 2 (.int .i64 s6) (.inr fun x hx => by have := hfd x hx; omega)).farR (w.heap.size + 1 + 1) 2 (.int .i64 s6) (.inr fun x hx => by have := hfd x hx; omega)
  replace hB := (hB.setCell (p := ⟨w.heap.size + 1, 2, none⟩) (by show w.heap.size ≤ w.heap.size + 1; omega) (.int .i64 s6)).setCell (p := ⟨w.heap.size + 1 + 1, 2, none⟩) (by show w.heap.size ≤ w.heap.size + 1 + 1; omega) (.int .i64 s6)
  have iS2 : inI f2.S := by subst hf2; exact ⟨by show _ ≤ s6; omega, by show s6 ≤ _; omega⟩
  have jS2 : inI g2.S := by subst hg2; exact ⟨by show _ ≤ s6; omega, by show s6 ≤ _; omega⟩
  have iK2 : inI f2.K := by subst hf2; exact jf1
  have iR2 : inI f2.R := by subst hf2; exact iR1
  have iV2 : inI f2.P.V := by subst hf2; exact iV1
  have jK2 : inI g2.K := by subst hg2; exact jg1
  have jR2 : inI g2.R := by subst hg2; exact jR1
  have jV2 : inI g2.P.V := by subst hg2; exact jV1
  have hf2x := hf2
  have hg2x := hg2
  clear hf2 hg2 hF hG
  generalize (wn.setCell ⟨w.heap.size + 1, 2, none⟩ (.int .i64 s6)).setCell ⟨w.heap.size + 1 + 1, 2, none⟩ (.int .i64 s6) = w4 at *
  have HM1 := Lib.hid (fun W (h : Row W na ns) => make5_any d da dc f2 fa fc na ns nc W hok h iK2 iR2 iS2 iV2)
  have HM2 := Lib.hid (fun W (h : Row W ma ms) => make5_any d da dc g2 ga gc ma ms mc W hok h jK2 jR2 jS2 jV2)
  have hokX := makeF_ok d f2 ns hok
  have hokY := makeF_ok d g2 ms hok
  have HSX := Lib.hid (show (makeF d f2 ns).S = s6 % slotsI d by rw [makeF_S]; subst hf2x; rfl)
  have HSY := Lib.hid (show (makeF d g2 ms).S = s6 % slotsI d by rw [makeF_S]; subst hg2x; rfl)
  clear hf2x hg2x
  generalize makeF d f2 ns = X0 at *
  generalize makeF d g2 ms = Y0 at *
  clear iS2 jS2 iK2 iR2 iV2 jK2 jR2 jV2
  refine region_slots [some 44, some 45, some 46, some 47, some 48, some 49, some 50, some 51, some 17, some 18, none, none] [none, none, none, none, none, none, none, none, none, none, some 8, some 9] 201 12 rfl (by kernel_rfl) (by kernel_rfl) rfl rfl ?_
  apply step_fix
  · intro a W Zs hS hFm hz hd
    have h15 := hFm.old 15 rfl
    conv at h15 => rhs; whnf
    replace h15 := ev_get hFm.size h15
    have hq := (hD.drew1.later hS).at
    unfold confBox at hq
    refine .inl ⟨wanted_none rfl _, fun K hK => ?_⟩
    have HK := Lib.hid hK
    clear hd hFm hK
    go_simp
    exact HK.out _ _ rfl (Below.refl _ _)
  simp only [List.nil_append, List.cons_append]
  apply step_fix
  · intro a W Zs hS hFm hz hd
    have h8 := hFm.old 8 rfl
    conv at h8 => rhs; whnf
    replace h8 := ev_get hFm.size h8
    have hq := (hF2.drew1.later hS).at
    unfold frBox at hq
    refine .inl ⟨wanted_none rfl _, fun K hK => ?_⟩
    have HK := Lib.hid hK
    clear hd hFm hK
    go_simp
    exact HK.out _ _ rfl (Below.refl _ _)
  simp only [List.nil_append, List.cons_append]
  apply step_fix
  · intro a W Zs hS hFm hz hd
    have h3 := hFm.old 3 rfl
    conv at h3 => rhs; whnf
    replace h3 := ev_get hFm.size h3
    refine .inl ⟨wanted_none rfl _, fun K hK => ?_⟩
    have HK := Lib.hid hK
    clear hd hFm hK
    go_simp
    exact HK.out _ _ rfl (Below.refl _ _)
  simp only [List.nil_append, List.cons_append]
  refine step_of (frF _ (X0)) (frF_good _ _) ?_ ?_
  · intro a W Zs hS hFm hz hd
    have h44 := ev_get hFm.size (hd 0 44 rfl rfl)
    have h45 := ev_get hFm.size (hd 1 45 rfl rfl)
    have h46 := ev_get hFm.size (hd 2 46 rfl rfl)
    refine .inl ⟨wanted_none rfl _, fun K hK => ?_⟩
    have HK := Lib.hid hK
    clear hd hFm hK
    go_simp
    refine (HM1.out _ ((hns.later hB).later (from_drew hS))).mono ?_
    rintro e W' ⟨ra, rc, rfl, hr, hfr, hb⟩
    exact HK.out _ _ ⟨ra, rc, rfl, hr, hr.foot hfr⟩ hb
  simp only [List.nil_append, List.cons_append]
  apply step_fix
  · intro a W Zs hS hFm hz hd
    have h15 := hFm.old 15 rfl
    conv at h15 => rhs; whnf
    replace h15 := ev_get hFm.size h15
    have hq := (hD.drew1.later hS).at
    unfold confBox at hq
    refine .inl ⟨wanted_none rfl _, fun K hK => ?_⟩
    have HK := Lib.hid hK
    clear hd hFm hK
    go_simp
    exact HK.out _ _ rfl (Below.refl _ _)
  simp only [List.nil_append, List.cons_append]
  apply step_fix
  · intro a W Zs hS hFm hz hd
    have h9 := hFm.old 9 rfl
    conv at h9 => rhs; whnf
    replace h9 := ev_get hFm.size h9
    have hq := (hG2.drew1.later hS).at
    unfold frBox at hq
    refine .inl ⟨wanted_none rfl _, fun K hK => ?_⟩
    have HK := Lib.hid hK
    clear hd hFm hK
    go_simp
    exact HK.out _ _ rfl (Below.refl _ _)
  simp only [List.nil_append, List.cons_append]
  apply step_fix
  · intro a W Zs hS hFm hz hd
    have h4 := hFm.old 4 rfl
    conv at h4 => rhs; whnf
    replace h4 := ev_get hFm.size h4
    refine .inl ⟨wanted_none rfl _, fun K hK => ?_⟩
    have HK := Lib.hid hK
    clear hd hFm hK
    go_simp
    exact HK.out _ _ rfl (Below.refl _ _)
  simp only [List.nil_append, List.cons_append]
  refine step_of (frF _ (Y0)) (frF_good _ _) ?_ ?_
  · intro a W Zs hS hFm hz hd
    have h48 := ev_get hFm.size (hd 4 48 rfl rfl)
    have h49 := ev_get hFm.size (hd 5 49 rfl rfl)
    have h50 := ev_get hFm.size (hd 6 50 rfl rfl)
    refine .inl ⟨wanted_none rfl _, fun K hK => ?_⟩
    have HK := Lib.hid hK
    clear hd hFm hK
    go_simp
    refine (HM2.out _ ((hms.later hB).later (from_drew hS))).mono ?_
    rintro e W' ⟨ra, rc, rfl, hr, hfr, hb⟩
    exact HK.out _ _ ⟨ra, rc, rfl, hr, hr.foot hfr⟩ hb
  simp only [List.nil_append, List.cons_append]
  refine step_of (boxF _ 29 6) (boxF_good _ _ _) ?_ ?_
  · intro a W Zs hS hFm hz hd
    refine .inl ⟨wanted_none rfl _, fun K hK => ?_⟩
    have HK := Lib.hid hK
    clear hd hFm hK
    go_simp
    exact HK.out _ _ ⟨_, _, rfl, rfl, Blk.new _ _ _, .inl ⟨Nat.le_refl _, by simp⟩⟩ (alloc_below _ _)
  simp only [List.nil_append, List.cons_append]
  refine step_of (boxF _ 29 6) (boxF_good _ _ _) ?_ ?_
  · intro a W Zs hS hFm hz hd
    refine .inl ⟨wanted_none rfl _, fun K hK => ?_⟩
    have HK := Lib.hid hK
    clear hd hFm hK
    go_simp
    exact HK.out _ _ ⟨_, _, rfl, rfl, Blk.new _ _ _, .inl ⟨Nat.le_refl _, by simp⟩⟩ (alloc_below _ _)
  simp only [List.nil_append, List.cons_append]
  refine step_of (frBoxF _ (X0)) (frBoxF_good _ _) ?_ ?_
  · intro a W Zs hS hFm hz hd hap
    obtain ⟨b17, cs17, e17, n17, q17, z17⟩ := hd 8 17 rfl rfl
    have h17 := ev_get hFm.size e17
    obtain ⟨a47, c47, e47, r47, f47⟩ := hd 3 47 rfl rfl
    have h47 := ev_get hFm.size e47
    have hB0 := (hz 8 _ rfl z17).1
    obtain ⟨u0, u1, u2, u3, u4, u5, rfl⟩ := arr6 n17
    have hq := q17.at
    have hfz := q17.frozen
    refine ⟨wanted_none rfl _, b17, z17, fun K hK => ?_⟩
    have HK := Lib.hid hK
    clear hd hFm hK
    go_simp
    exact HK.out undef _ (Only.fill6 _ _ _ _ _ _ _ _) (fun d hd' => by injection hd' with hd'; subst hd'; exact ⟨⟨b17, a47, c47, e17, q17.fill6 _ _ _ _ _ _, r47.agree f47 (store_apart (Only.fill6 W b17 _ _ _ _ _ _) hB0 z17 hap 3 rfl (by decide)), .inr (.inl rfl), ft_mono f47 (foot_depS 3 rfl rfl rfl)⟩, ⟨b17, _, e17, rfl, q17.fill6 _ _ _ _ _ _, z17⟩⟩)
  simp only [List.nil_append, List.cons_append]
  refine step_of (frBoxF _ (Y0)) (frBoxF_good _ _) ?_ ?_
  · intro a W Zs hS hFm hz hd hap
    obtain ⟨b18, cs18, e18, n18, q18, z18⟩ := hd 9 18 rfl rfl
    have h18 := ev_get hFm.size e18
    obtain ⟨a51, c51, e51, r51, f51⟩ := hd 7 51 rfl rfl
    have h51 := ev_get hFm.size e51
    have hB0 := (hz 9 _ rfl z18).1
    obtain ⟨u0, u1, u2, u3, u4, u5, rfl⟩ := arr6 n18
    have hq := q18.at
    have hfz := q18.frozen
    refine ⟨wanted_none rfl _, b18, z18, fun K hK => ?_⟩
    have HK := Lib.hid hK
    clear hd hFm hK
    go_simp
    exact HK.out undef _ (Only.fill6 _ _ _ _ _ _ _ _) (fun d hd' => by injection hd' with hd'; subst hd'; exact ⟨⟨b18, a51, c51, e18, q18.fill6 _ _ _ _ _ _, r51.agree f51 (store_apart (Only.fill6 W b18 _ _ _ _ _ _) hB0 z18 hap 7 rfl (by decide)), .inr (.inl rfl), ft_mono f51 (foot_depS 7 rfl rfl rfl)⟩, ⟨b18, _, e18, rfl, q18.fill6 _ _ _ _ _ _, z18⟩⟩)
  simp only [List.nil_append, List.cons_append]
  intro a w5 Zs hS hFm hz hd
  obtain ⟨b17, a17, c17, e17, q17, r17, f17, g17⟩ := hd 10 17 (by decide) rfl
  obtain ⟨bz, csz, ez, nz, qz, zz⟩ := hd 8 17 (by decide) rfl
  have nb17 := ptr_new ez e17 (hz 8 (by decide) bz zz)
  clear zz qz nz ez
  clear csz bz
  obtain ⟨b18, a18, c18, e18, q18, r18, f18, g18⟩ := hd 11 18 (by decide) rfl
  obtain ⟨bz, csz, ez, nz, qz, zz⟩ := hd 9 18 (by decide) rfl
  have nb18 := ptr_new ez e18 (hz 9 (by decide) bz zz)
  clear zz qz nz ez
  clear csz bz
  have e0 := hFm.old 0 rfl
  conv at e0 => rhs; whnf
  have e1 := hFm.old 1 rfl
  conv at e1 => rhs; whnf
  have e2 := hFm.old 2 rfl
  conv at e2 => rhs; whnf
  have e3 := hFm.old 3 rfl
  conv at e3 => rhs; whnf
  have e4 := hFm.old 4 rfl
  conv at e4 => rhs; whnf
  have e5 := hFm.old 5 rfl
  conv at e5 => rhs; whnf
  have e6 := hFm.old 6 rfl
  conv at e6 => rhs; whnf
  have e7 := hFm.old 7 rfl
  conv at e7 => rhs; whnf
  have e8 := hFm.old 8 rfl
  conv at e8 => rhs; whnf
  have e9 := hFm.old 9 rfl
  conv at e9 => rhs; whnf
  have e10 := hFm.old 10 rfl
  conv at e10 => rhs; whnf
  have e11 := hFm.old 11 rfl
  conv at e11 => rhs; whnf
  have e12 := hFm.old 12 rfl
  conv at e12 => rhs; whnf
  have e13 := hFm.old 13 rfl
  conv at e13 => rhs; whnf
  have e14 := hFm.old 14 rfl
  conv at e14 => rhs; whnf
  have e15 := hFm.old 15 rfl
  conv at e15 => rhs; whnf
  have e16 := hFm.old 16 rfl
  conv at e16 => rhs; whnf
  have e19 := hFm.old 19 rfl
  conv at e19 => rhs; whnf
  have e20 := hFm.old 20 rfl
  conv at e20 => rhs; whnf
  have e21 := hFm.old 21 rfl
  conv at e21 => rhs; whnf
  have e22 := hFm.old 22 rfl
  conv at e22 => rhs; whnf
  have e23 := hFm.old 23 rfl
  conv at e23 => rhs; whnf
  have e24 := hFm.old 24 rfl
  conv at e24 => rhs; whnf
  have e25 := hFm.old 25 rfl
  conv at e25 => rhs; whnf
  have e26 := hFm.old 26 rfl
  conv at e26 => rhs; whnf
  have e27 := hFm.old 27 rfl
  conv at e27 => rhs; whnf
  have e28 := hFm.old 28 rfl
  conv at e28 => rhs; whnf
  have e29 := hFm.old 29 rfl
  conv at e29 => rhs; whnf
  have e30 := hFm.old 30 rfl
  conv at e30 => rhs; whnf
  have e31 := hFm.old 31 rfl
  conv at e31 => rhs; whnf
  have e32 := hFm.old 32 rfl
  conv at e32 => rhs; whnf
  have e33 := hFm.old 33 rfl
  conv at e33 => rhs; whnf
  have e34 := hFm.old 34 rfl
  conv at e34 => rhs; whnf
  have e35 := hFm.old 35 rfl
  conv at e35 => rhs; whnf
  have e36 := hFm.old 36 rfl
  conv at e36 => rhs; whnf
  have e37 := hFm.old 37 rfl
  conv at e37 => rhs; whnf
  have e38 := hFm.old 38 rfl
  conv at e38 => rhs; whnf
  have e39 := hFm.old 39 rfl
  conv at e39 => rhs; whnf
  have e40 := hFm.old 40 rfl
  conv at e40 => rhs; whnf
  have e41 := hFm.old 41 rfl
  conv at e41 => rhs; whnf
  have e42 := hFm.old 42 rfl
  conv at e42 => rhs; whnf
  have e43 := hFm.old 43 rfl
  conv at e43 => rhs; whnf
  have e52 := hFm.old 52 rfl
  conv at e52 => rhs; whnf
  have e53 := hFm.old 53 rfl
  conv at e53 => rhs; whnf
  have e54 := hFm.old 54 rfl
  conv at e54 => rhs; whnf
  have e55 := hFm.old 55 rfl
  conv at e55 => rhs; whnf
  have e56 := hFm.old 56 rfl
  conv at e56 => rhs; whnf
  have e57 := hFm.old 57 rfl
  conv at e57 => rhs; whnf
  have e58 := hFm.old 58 rfl
  conv at e58 => rhs; whnf
  have e59 := hFm.old 59 rfl
  conv at e59 => rhs; whnf
  have e60 := hFm.old 60 rfl
  conv at e60 => rhs; whnf
  have e61 := hFm.old 61 rfl
  conv at e61 => rhs; whnf
  have e62 := hFm.old 62 rfl
  conv at e62 => rhs; whnf
  have e63 := hFm.old 63 rfl
  conv at e63 => rhs; whnf
  have e64 := hFm.old 64 rfl
  conv at e64 => rhs; whnf
  have e65 := hFm.old 65 rfl
  conv at e65 => rhs; whnf
  have e66 := hFm.old 66 rfl
  conv at e66 => rhs; whnf
  have e67 := hFm.old 67 rfl
  conv at e67 => rhs; whnf
  have e68 := hFm.old 68 rfl
  conv at e68 => rhs; whnf
  have e69 := hFm.old 69 rfl
  conv at e69 => rhs; whnf
  have e70 := hFm.old 70 rfl
  conv at e70 => rhs; whnf
  have e71 := hFm.old 71 rfl
  conv at e71 => rhs; whnf
  have e72 := hFm.old 72 rfl
  conv at e72 => rhs; whnf
  have e73 := hFm.old 73 rfl
  conv at e73 => rhs; whnf
  have e74 := hFm.old 74 rfl
  conv at e74 => rhs; whnf
  have e75 := hFm.old 75 rfl
  conv at e75 => rhs; whnf
  have e76 := hFm.old 76 rfl
  conv at e76 => rhs; whnf
  have e77 := hFm.old 77 rfl
  conv at e77 => rhs; whnf
  have e78 := hFm.old 78 rfl
  conv at e78 => rhs; whnf
  have e79 := hFm.old 79 rfl
  conv at e79 => rhs; whnf
  have e80 := hFm.old 80 rfl
  conv at e80 => rhs; whnf
  have e81 := hFm.old 81 rfl
  conv at e81 => rhs; whnf
  have e82 := hFm.old 82 rfl
  conv at e82 => rhs; whnf
  have e83 := hFm.old 83 rfl
  conv at e83 => rhs; whnf
  have e84 := hFm.old 84 rfl
  conv at e84 => rhs; whnf
  have e85 := hFm.old 85 rfl
  conv at e85 => rhs; whnf
  have e86 := hFm.old 86 rfl
  conv at e86 => rhs; whnf
  have e87 := hFm.old 87 rfl
  conv at e87 => rhs; whnf
  have e88 := hFm.old 88 rfl
  conv at e88 => rhs; whnf
  have e89 := hFm.old 89 rfl
  conv at e89 => rhs; whnf
  have e90 := hFm.old 90 rfl
  conv at e90 => rhs; whnf
  have e91 := hFm.old 91 rfl
  conv at e91 => rhs; whnf
  have e92 := hFm.old 92 rfl
  conv at e92 => rhs; whnf
  have e93 := hFm.old 93 rfl
  conv at e93 => rhs; whnf
  have e94 := hFm.old 94 rfl
  conv at e94 => rhs; whnf
  have e95 := hFm.old 95 rfl
  conv at e95 => rhs; whnf
  have e96 := hFm.old 96 rfl
  conv at e96 => rhs; whnf
  have e97 := hFm.old 97 rfl
  conv at e97 => rhs; whnf
  have e98 := hFm.old 98 rfl
  conv at e98 => rhs; whnf
  have e99 := hFm.old 99 rfl
  conv at e99 => rhs; whnf
  have e100 := hFm.old 100 rfl
  conv at e100 => rhs; whnf
  have e101 := hFm.old 101 rfl
  conv at e101 => rhs; whnf
  have e102 := hFm.old 102 rfl
  conv at e102 => rhs; whnf
  have e103 := hFm.old 103 rfl
  conv at e103 => rhs; whnf
  have e104 := hFm.old 104 rfl
  conv at e104 => rhs; whnf
  have e105 := hFm.old 105 rfl
  conv at e105 => rhs; whnf
  have e106 := hFm.old 106 rfl
  conv at e106 => rhs; whnf
  have e107 := hFm.old 107 rfl
  conv at e107 => rhs; whnf
  have e108 := hFm.old 108 rfl
  conv at e108 => rhs; whnf
  have e109 := hFm.old 109 rfl
  conv at e109 => rhs; whnf
  have e110 := hFm.old 110 rfl
  conv at e110 => rhs; whnf
  have e111 := hFm.old 111 rfl
  conv at e111 => rhs; whnf
  have e112 := hFm.old 112 rfl
  conv at e112 => rhs; whnf
  have e113 := hFm.old 113 rfl
  conv at e113 => rhs; whnf
  have e114 := hFm.old 114 rfl
  conv at e114 => rhs; whnf
  have e115 := hFm.old 115 rfl
  conv at e115 => rhs; whnf
  have e116 := hFm.old 116 rfl
  conv at e116 => rhs; whnf
  have e117 := hFm.old 117 rfl
  conv at e117 => rhs; whnf
  have e118 := hFm.old 118 rfl
  conv at e118 => rhs; whnf
  have e119 := hFm.old 119 rfl
  conv at e119 => rhs; whnf
  have e120 := hFm.old 120 rfl
  conv at e120 => rhs; whnf
  have e121 := hFm.old 121 rfl
  conv at e121 => rhs; whnf
  have e122 := hFm.old 122 rfl
  conv at e122 => rhs; whnf
  have e123 := hFm.old 123 rfl
  conv at e123 => rhs; whnf
  have e124 := hFm.old 124 rfl
  conv at e124 => rhs; whnf
  have e125 := hFm.old 125 rfl
  conv at e125 => rhs; whnf
  have e126 := hFm.old 126 rfl
  conv at e126 => rhs; whnf
  have e127 := hFm.old 127 rfl
  conv at e127 => rhs; whnf
  have e128 := hFm.old 128 rfl
  conv at e128 => rhs; whnf
  have e129 := hFm.old 129 rfl
  conv at e129 => rhs; whnf
  have e130 := hFm.old 130 rfl
  conv at e130 => rhs; whnf
  have e131 := hFm.old 131 rfl
  conv at e131 => rhs; whnf
  have e132 := hFm.old 132 rfl
  conv at e132 => rhs; whnf
  have e133 := hFm.old 133 rfl
  conv at e133 => rhs; whnf
  have e134 := hFm.old 134 rfl
  conv at e134 => rhs; whnf
  have e135 := hFm.old 135 rfl
  conv at e135 => rhs; whnf
  have e136 := hFm.old 136 rfl
  conv at e136 => rhs; whnf
  have e137 := hFm.old 137 rfl
  conv at e137 => rhs; whnf
  have e138 := hFm.old 138 rfl
  conv at e138 => rhs; whnf
  have e139 := hFm.old 139 rfl
  conv at e139 => rhs; whnf
  have e140 := hFm.old 140 rfl
  conv at e140 => rhs; whnf
  have e141 := hFm.old 141 rfl
  conv at e141 => rhs; whnf
  have e142 := hFm.old 142 rfl
  conv at e142 => rhs; whnf
  have e143 := hFm.old 143 rfl
  conv at e143 => rhs; whnf
  have e144 := hFm.old 144 rfl
  conv at e144 => rhs; whnf
  have e145 := hFm.old 145 rfl
  conv at e145 => rhs; whnf
  have e146 := hFm.old 146 rfl
  conv at e146 => rhs; whnf
  have e147 := hFm.old 147 rfl
  conv at e147 => rhs; whnf
  have e148 := hFm.old 148 rfl
  conv at e148 => rhs; whnf
  have e149 := hFm.old 149 rfl
  conv at e149 => rhs; whnf
  have e150 := hFm.old 150 rfl
  conv at e150 => rhs; whnf
  have e151 := hFm.old 151 rfl
  conv at e151 => rhs; whnf
  have e152 := hFm.old 152 rfl
  conv at e152 => rhs; whnf
  have e153 := hFm.old 153 rfl
  conv at e153 => rhs; whnf
  have e154 := hFm.old 154 rfl
  conv at e154 => rhs; whnf
  have e155 := hFm.old 155 rfl
  conv at e155 => rhs; whnf
  have e156 := hFm.old 156 rfl
  conv at e156 => rhs; whnf
  have e157 := hFm.old 157 rfl
  conv at e157 => rhs; whnf
  have e158 := hFm.old 158 rfl
  conv at e158 => rhs; whnf
  have e159 := hFm.old 159 rfl
  conv at e159 => rhs; whnf
  have e160 := hFm.old 160 rfl
  conv at e160 => rhs; whnf
  have e161 := hFm.old 161 rfl
  conv at e161 => rhs; whnf
  have e162 := hFm.old 162 rfl
  conv at e162 => rhs; whnf
  have e163 := hFm.old 163 rfl
  conv at e163 => rhs; whnf
  have e164 := hFm.old 164 rfl
  conv at e164 => rhs; whnf
  have e165 := hFm.old 165 rfl
  conv at e165 => rhs; whnf
  have e166 := hFm.old 166 rfl
  conv at e166 => rhs; whnf
  have e167 := hFm.old 167 rfl
  conv at e167 => rhs; whnf
  have e168 := hFm.old 168 rfl
  conv at e168 => rhs; whnf
  have e169 := hFm.old 169 rfl
  conv at e169 => rhs; whnf
  have e170 := hFm.old 170 rfl
  conv at e170 => rhs; whnf
  have e171 := hFm.old 171 rfl
  conv at e171 => rhs; whnf
  have e172 := hFm.old 172 rfl
  conv at e172 => rhs; whnf
  have e173 := hFm.old 173 rfl
  conv at e173 => rhs; whnf
  have e174 := hFm.old 174 rfl
  conv at e174 => rhs; whnf
  have e175 := hFm.old 175 rfl
  conv at e175 => rhs; whnf
  have e176 := hFm.old 176 rfl
  conv at e176 => rhs; whnf
  have e177 := hFm.old 177 rfl
  conv at e177 => rhs; whnf
  have e178 := hFm.old 178 rfl
  conv at e178 => rhs; whnf
  have e179 := hFm.old 179 rfl
  conv at e179 => rhs; whnf
  have e180 := hFm.old 180 rfl
  conv at e180 => rhs; whnf
  have e181 := hFm.old 181 rfl
  conv at e181 => rhs; whnf
  have e182 := hFm.old 182 rfl
  conv at e182 => rhs; whnf
  have e183 := hFm.old 183 rfl
  conv at e183 => rhs; whnf
  have e184 := hFm.old 184 rfl
  conv at e184 => rhs; whnf
  have e185 := hFm.old 185 rfl
  conv at e185 => rhs; whnf
  have e186 := hFm.old 186 rfl
  conv at e186 => rhs; whnf
  have e187 := hFm.old 187 rfl
  conv at e187 => rhs; whnf
  have e188 := hFm.old 188 rfl
  conv at e188 => rhs; whnf
  have e189 := hFm.old 189 rfl
  conv at e189 => rhs; whnf
  have e190 := hFm.old 190 rfl
  conv at e190 => rhs; whnf
  have e191 := hFm.old 191 rfl
  conv at e191 => rhs; whnf
  have e192 := hFm.old 192 rfl
  conv at e192 => rhs; whnf
  have e193 := hFm.old 193 rfl
  conv at e193 => rhs; whnf
  have e194 := hFm.old 194 rfl
  conv at e194 => rhs; whnf
  have e195 := hFm.old 195 rfl
  conv at e195 => rhs; whnf
  have e196 := hFm.old 196 rfl
  conv at e196 => rhs; whnf
  have e197 := hFm.old 197 rfl
  conv at e197 => rhs; whnf
  have e198 := hFm.old 198 rfl
  conv at e198 => rhs; whnf
  have e199 := hFm.old 199 rfl
  conv at e199 => rhs; whnf
  have e200 := hFm.old 200 rfl
  conv at e200 => rhs; whnf
  have hsz := hFm.size
  have hdf := hFm.defers
  clear hd hFm
  obtain ⟨t, df⟩ := a
  simp only at hsz hdf
  subst hdf
  obtain ⟨x, hx⟩ : ∃ x : Nat → Value, ∀ i, t.getD i undef = x i := ⟨fun i => t.getD i undef, fun _ => rfl⟩
  have h17 := (hx 17).symm.trans e17
  have h18 := (hx 18).symm.trans e18
  have h0 := (hx 0).symm.trans e0
  have h1 := (hx 1).symm.trans e1
  have h2 := (hx 2).symm.trans e2
  have h3 := (hx 3).symm.trans e3
  have h4 := (hx 4).symm.trans e4
  have h5 := (hx 5).symm.trans e5
  have h6 := (hx 6).symm.trans e6
  have h7 := (hx 7).symm.trans e7
  have h8 := (hx 8).symm.trans e8
  have h9 := (hx 9).symm.trans e9
  have h10 := (hx 10).symm.trans e10
  have h11 := (hx 11).symm.trans e11
  have h12 := (hx 12).symm.trans e12
  have h13 := (hx 13).symm.trans e13
  have h14 := (hx 14).symm.trans e14
  have h15 := (hx 15).symm.trans e15
  have h16 := (hx 16).symm.trans e16
  have h19 := (hx 19).symm.trans e19
  have h20 := (hx 20).symm.trans e20
  have h21 := (hx 21).symm.trans e21
  have h22 := (hx 22).symm.trans e22
  have h23 := (hx 23).symm.trans e23
  have h24 := (hx 24).symm.trans e24
  have h25 := (hx 25).symm.trans e25
  have h26 := (hx 26).symm.trans e26
  have h27 := (hx 27).symm.trans e27
  have h28 := (hx 28).symm.trans e28
  have h29 := (hx 29).symm.trans e29
  have h30 := (hx 30).symm.trans e30
  have h31 := (hx 31).symm.trans e31
  have h32 := (hx 32).symm.trans e32
  have h33 := (hx 33).symm.trans e33
  have h34 := (hx 34).symm.trans e34
  have h35 := (hx 35).symm.trans e35
  have h36 := (hx 36).symm.trans e36
  have h37 := (hx 37).symm.trans e37
  have h38 := (hx 38).symm.trans e38
  have h39 := (hx 39).symm.trans e39
  have h40 := (hx 40).symm.trans e40
  have h41 := (hx 41).symm.trans e41
  have h42 := (hx 42).symm.trans e42
  have h43 := (hx 43).symm.trans e43
  have h52 := (hx 52).symm.trans e52
  have h53 := (hx 53).symm.trans e53
  have h54 := (hx 54).symm.trans e54
  have h55 := (hx 55).symm.trans e55
  have h56 := (hx 56).symm.trans e56
  have h57 := (hx 57).symm.trans e57
  have h58 := (hx 58).symm.trans e58
  have h59 := (hx 59).symm.trans e59
  have h60 := (hx 60).symm.trans e60
  have h61 := (hx 61).symm.trans e61
  have h62 := (hx 62).symm.trans e62
  have h63 := (hx 63).symm.trans e63
  have h64 := (hx 64).symm.trans e64
  have h65 := (hx 65).symm.trans e65
  have h66 := (hx 66).symm.trans e66
  have h67 := (hx 67).symm.trans e67
  have h68 := (hx 68).symm.trans e68
  have h69 := (hx 69).symm.trans e69
  have h70 := (hx 70).symm.trans e70
  have h71 := (hx 71).symm.trans e71
  have h72 := (hx 72).symm.trans e72
  have h73 := (hx 73).symm.trans e73
  have h74 := (hx 74).symm.trans e74
  have h75 := (hx 75).symm.trans e75
  have h76 := (hx 76).symm.trans e76
  have h77 := (hx 77).symm.trans e77
  have h78 := (hx 78).symm.trans e78
  have h79 := (hx 79).symm.trans e79
  have h80 := (hx 80).symm.trans e80
  have h81 := (hx 81).symm.trans e81
  have h82 := (hx 82).symm.trans e82
  have h83 := (hx 83).symm.trans e83
  have h84 := (hx 84).symm.trans e84
  have h85 := (hx 85).symm.trans e85
  have h86 := (hx 86).symm.trans e86
  have h87 := (hx 87).symm.trans e87
  have h88 := (hx 88).symm.trans e88
  have h89 := (hx 89).symm.trans e89
  have h90 := (hx 90).symm.trans e90
  have h91 := (hx 91).symm.trans e91
  have h92 := (hx 92).symm.trans e92
  have h93 := (hx 93).symm.trans e93
  have h94 := (hx 94).symm.trans e94
  have h95 := (hx 95).symm.trans e95
  have h96 := (hx 96).symm.trans e96
  have h97 := (hx 97).symm.trans e97
  have h98 := (hx 98).symm.trans e98
  have h99 := (hx 99).symm.trans e99
  have h100 := (hx 100).symm.trans e100
  have h101 := (hx 101).symm.trans e101
  have h102 := (hx 102).symm.trans e102
  have h103 := (hx 103).symm.trans e103
  have h104 := (hx 104).symm.trans e104
  have h105 := (hx 105).symm.trans e105
  have h106 := (hx 106).symm.trans e106
  have h107 := (hx 107).symm.trans e107
  have h108 := (hx 108).symm.trans e108
  have h109 := (hx 109).symm.trans e109
  have h110 := (hx 110).symm.trans e110
  have h111 := (hx 111).symm.trans e111
  have h112 := (hx 112).symm.trans e112
  have h113 := (hx 113).symm.trans e113
  have h114 := (hx 114).symm.trans e114
  have h115 := (hx 115).symm.trans e115
  have h116 := (hx 116).symm.trans e116
  have h117 := (hx 117).symm.trans e117
  have h118 := (hx 118).symm.trans e118
  have h119 := (hx 119).symm.trans e119
  have h120 := (hx 120).symm.trans e120
  have h121 := (hx 121).symm.trans e121
  have h122 := (hx 122).symm.trans e122
  have h123 := (hx 123).symm.trans e123
  have h124 := (hx 124).symm.trans e124
  have h125 := (hx 125).symm.trans e125
  have h126 := (hx 126).symm.trans e126
  have h127 := (hx 127).symm.trans e127
  have h128 := (hx 128).symm.trans e128
  have h129 := (hx 129).symm.trans e129
  have h130 := (hx 130).symm.trans e130
  have h131 := (hx 131).symm.trans e131
  have h132 := (hx 132).symm.trans e132
  have h133 := (hx 133).symm.trans e133
  have h134 := (hx 134).symm.trans e134
  have h135 := (hx 135).symm.trans e135
  have h136 := (hx 136).symm.trans e136
  have h137 := (hx 137).symm.trans e137
  have h138 := (hx 138).symm.trans e138
  have h139 := (hx 139).symm.trans e139
  have h140 := (hx 140).symm.trans e140
  have h141 := (hx 141).symm.trans e141
  have h142 := (hx 142).symm.trans e142
  have h143 := (hx 143).symm.trans e143
  have h144 := (hx 144).symm.trans e144
  have h145 := (hx 145).symm.trans e145
  have h146 := (hx 146).symm.trans e146
  have h147 := (hx 147).symm.trans e147
  have h148 := (hx 148).symm.trans e148
  have h149 := (hx 149).symm.trans e149
  have h150 := (hx 150).symm.trans e150
  have h151 := (hx 151).symm.trans e151
  have h152 := (hx 152).symm.trans e152
  have h153 := (hx 153).symm.trans e153
  have h154 := (hx 154).symm.trans e154
  have h155 := (hx 155).symm.trans e155
  have h156 := (hx 156).symm.trans e156
  have h157 := (hx 157).symm.trans e157
  have h158 := (hx 158).symm.trans e158
  have h159 := (hx 159).symm.trans e159
  have h160 := (hx 160).symm.trans e160
  have h161 := (hx 161).symm.trans e161
  have h162 := (hx 162).symm.trans e162
  have h163 := (hx 163).symm.trans e163
  have h164 := (hx 164).symm.trans e164
  have h165 := (hx 165).symm.trans e165
  have h166 := (hx 166).symm.trans e166
  have h167 := (hx 167).symm.trans e167
  have h168 := (hx 168).symm.trans e168
  have h169 := (hx 169).symm.trans e169
  have h170 := (hx 170).symm.trans e170
  have h171 := (hx 171).symm.trans e171
  have h172 := (hx 172).symm.trans e172
  have h173 := (hx 173).symm.trans e173
  have h174 := (hx 174).symm.trans e174
  have h175 := (hx 175).symm.trans e175
  have h176 := (hx 176).symm.trans e176
  have h177 := (hx 177).symm.trans e177
  have h178 := (hx 178).symm.trans e178
  have h179 := (hx 179).symm.trans e179
  have h180 := (hx 180).symm.trans e180
  have h181 := (hx 181).symm.trans e181
  have h182 := (hx 182).symm.trans e182
  have h183 := (hx 183).symm.trans e183
  have h184 := (hx 184).symm.trans e184
  have h185 := (hx 185).symm.trans e185
  have h186 := (hx 186).symm.trans e186
  have h187 := (hx 187).symm.trans e187
  have h188 := (hx 188).symm.trans e188
  have h189 := (hx 189).symm.trans e189
  have h190 := (hx 190).symm.trans e190
  have h191 := (hx 191).symm.trans e191
  have h192 := (hx 192).symm.trans e192
  have h193 := (hx 193).symm.trans e193
  have h194 := (hx 194).symm.trans e194
  have h195 := (hx 195).symm.trans e195
  have h196 := (hx 196).symm.trans e196
  have h197 := (hx 197).symm.trans e197
  have h198 := (hx 198).symm.trans e198
  have h199 := (hx 199).symm.trans e199
  have h200 := (hx 200).symm.trans e200
  have ht' : t = #[x 0, x 1, x 2, x 3, x 4, x 5, x 6, x 7, x 8, x 9, x 10, x 11, x 12, x 13, x 14, x 15, x 16, x 17, x 18, x 19, x 20, x 21, x 22, x 23, x 24, x 25, x 26, x 27, x 28, x 29, x 30, x 31, x 32, x 33, x 34, x 35, x 36, x 37, x 38, x 39, x 40, x 41, x 42, x 43, x 44, x 45, x 46, x 47, x 48, x 49, x 50, x 51, x 52, x 53, x 54, x 55, x 56, x 57, x 58, x 59, x 60, x 61, x 62, x 63, x 64, x 65, x 66, x 67, x 68, x 69, x 70, x 71, x 72, x 73, x 74, x 75, x 76, x 77, x 78, x 79, x 80, x 81, x 82, x 83, x 84, x 85, x 86, x 87, x 88, x 89, x 90, x 91, x 92, x 93, x 94, x 95, x 96, x 97, x 98, x 99, x 100, x 101, x 102, x 103, x 104, x 105, x 106, x 107, x 108, x 109, x 110, x 111, x 112, x 113, x 114, x 115, x 116, x 117, x 118, x 119, x 120, x 121, x 122, x 123, x 124, x 125, x 126, x 127, x 128, x 129, x 130, x 131, x 132, x 133, x 134, x 135, x 136, x 137, x 138, x 139, x 140, x 141, x 142, x 143, x 144, x 145, x 146, x 147, x 148, x 149, x 150, x 151, x 152, x 153, x 154, x 155, x 156, x 157, x 158, x 159, x 160, x 161, x 162, x 163, x 164, x 165, x 166, x 167, x 168, x 169, x 170, x 171, x 172, x 173, x 174, x 175, x 176, x 177, x 178, x 179, x 180, x 181, x 182, x 183, x 184, x 185, x 186, x 187, x 188, x 189, x 190, x 191, x 192, x 193, x 194, x 195, x 196, x 197, x 198, x 199, x 200] := frame_lit t 201 hsz x hx
  clear hx hsz hz e17 e18 e0 e1 e2 e3 e4 e5 e6 e7 e8 e9 e10 e11 e12 e13 e14 e15 e16 e19 e20 e21 e22 e23 e24 e25 e26 e27 e28 e29 e30 e31 e32 e33 e34 e35 e36 e37 e38 e39 e40 e41 e42 e43 e52 e53 e54 e55 e56 e57 e58 e59 e60 e61 e62 e63 e64 e65 e66 e67 e68 e69 e70 e71 e72 e73 e74 e75 e76 e77 e78 e79 e80 e81 e82 e83 e84 e85 e86 e87 e88 e89 e90 e91 e92 e93 e94 e95 e96 e97 e98 e99 e100 e101 e102 e103 e104 e105 e106 e107 e108 e109 e110 e111 e112 e113 e114 e115 e116 e117 e118 e119 e120 e121 e122 e123 e124 e125 e126 e127 e128 e129 e130 e131 e132 e133 e134 e135 e136 e137 e138 e139 e140 e141 e142 e143 e144 e145 e146 e147 e148 e149 e150 e151 e152 e153 e154 e155 e156 e157 e158 e159 e160 e161 e162 e163 e164 e165 e166 e167 e168 e169 e170 e171 e172 e173 e174 e175 e176 e177 e178 e179 e180 e181 e182 e183 e184 e185 e186 e187 e188 e189 e190 e191 e192 e193 e194 e195 e196 e197 e198 e199 e200
  subst ht'
  (try dsimp only)
  rw [h17, h18, h0, h1, h2, h3, h4, h5, h6, h7, h8, h9, h10, h11, h12, h13, h14, h15, h16, h19, h20, h21, h22, h23, h24, h25, h26, h27, h28, h29, h30, h31, h32, h33, h34, h35, h36, h37, h38, h39, h40, h41, h42, h43, h52, h53, h54, h55, h56, h57, h58, h59, h60, h61, h62, h63, h64, h65, h66, h67, h68, h69, h70, h71, h72, h73, h74, h75, h76, h77, h78, h79, h80, h81, h82, h83, h84, h85, h86, h87, h88, h89, h90, h91, h92, h93, h94, h95, h96, h97, h98, h99, h100, h101, h102, h103, h104, h105, h106, h107, h108, h109, h110, h111, h112, h113, h114, h115, h116, h117, h118, h119, h120, h121, h122, h123, h124, h125, h126, h127, h128, h129, h130, h131, h132, h133, h134, h135, h136, h137, h138, h139, h140, h141, h142, h143, h144, h145, h146, h147, h148, h149, h150, h151, h152, h153, h154, h155, h156, h157, h158, h159, h160, h161, h162, h163, h164, h165, h166, h167, h168, h169, h170, h171, h172, h173, h174, h175, h176, h177, h178, h179, h180, h181, h182, h183, h184, h185, h186, h187, h188, h189, h190, h191, h192, h193, h194, h195, h196, h197, h198, h199, h200]
  clear h17 h18 h0 h1 h2 h3 h4 h5 h6 h7 h8 h9 h10 h11 h12 h13 h14 h15 h16 h19 h20 h21 h22 h23 h24 h25 h26 h27 h28 h29 h30 h31 h32 h33 h34 h35 h36 h37 h38 h39 h40 h41 h42 h43 h52 h53 h54 h55 h56 h57 h58 h59 h60 h61 h62 h63 h64 h65 h66 h67 h68 h69 h70 h71 h72 h73 h74 h75 h76 h77 h78 h79 h80 h81 h82 h83 h84 h85 h86 h87 h88 h89 h90 h91 h92 h93 h94 h95 h96 h97 h98 h99 h100 h101 h102 h103 h104 h105 h106 h107 h108 h109 h110 h111 h112 h113 h114 h115 h116 h117 h118 h119 h120 h121 h122 h123 h124 h125 h126 h127 h128 h129 h130 h131 h132 h133 h134 h135 h136 h137 h138 h139 h140 h141 h142 h143 h144 h145 h146 h147 h148 h149 h150 h151 h152 h153 h154 h155 h156 h157 h158 h159 h160 h161 h162 h163 h164 h165 h166 h167 h168 h169 h170 h171 h172 h173 h174 h175 h176 h177 h178 h179 h180 h181 h182 h183 h184 h185 h186 h187 h188 h189 h190 h191 h192 h193 h194 h195 h196 h197 h198 h199 h200
  rw [undef_fold]
  have hb := from_drew hS
  have hdb := hD.lt
  have hwB := hB.size
  have nx : w4.heap.size ≤ b17 ∧ b17 < w5.heap.size := nb17
  have ny : w4.heap.size ≤ b18 ∧ b18 < w5.heap.size := nb18
  have hrdl := hrd.ltR
  have ex := ok_echo hok hokX
  have ey := ok_echo hok hokY
  have hM : T7 d da dc db b17 b18 X0 Y0 a17 c17 a18 c18 w w5 := by
    have x1 := rowT_box r17 q17 rfl ex
    have x2 := rowT_box r17 q18 rfl ex
    have y1 := rowT_box r18 q17 rfl ey
    have y2 := rowT_box r18 q18 rfl ey
    refine ⟨hB.trans (hb.mono hB.size), hD.later hb, hrd.later hb, q17, q18, r17, r18, by omega, by omega, ⟨by omega, by omega⟩, hrdl.imp id fun q y e => by have := q y e; omega, ?_, ?_⟩
    · rcases x1 with e | x1
      · exact .inl e
      · rcases x2 with e | x2
        · exact .inl e
        · exact .inr fun y e => ⟨x1 y e, x2 y e⟩
    · rcases y1 with e | y1
      · exact .inl e
      · rcases y2 with e | y2
        · exact .inl e
        · exact .inr fun y e => ⟨y1 y e, y2 y e⟩
  clear hS hb hD hrd hB q17 q18 r17 r18 f17 f18 g17 g18 nb17 nb18 hF2 hG2 HM1 HM2 ex ey hrdl
  have HWi := Lib.hid (fun W => rwire_any d da dc r W hok (by omega) (by omega))
  obtain ⟨R0, R1⟩ := wireI_range d r
  have HOX := Lib.hid (okR hokX (wireI d r) R0 R1)
  have HOY := Lib.hid (okR hokY (wireI d r) R0 R1)
  obtain ⟨R, hR⟩ : ∃ R, R = wireI d r := ⟨_, rfl⟩
  rw [← hR] at HWi HOX HOY R0 R1
  have HRw := Lib.hid hR
  clear hR
  clear hokX hokY
  go_upto_region 9 with fail
  go_cut [54] (fun s wx => s = .int .i64 R ∧ T7 d da dc db b17 b18 { X0 with R := R } { Y0 with R := R } a17 c17 a18 c18 w wx)
  case first =>
    replace hM := hM.later (Below.refl _ _).drew
    have qD := hM.hD.at
    unfold confBox at qD
    go_region_with ((go_at_call 13; refine (HWi.out _).mono ?_; rintro e wq ⟨rfl, hb⟩; replace hM := hM.later hb; clear hb qD; have qD := hM.hD.at; unfold confBox at qD; (try clear q7 f7 q8 f8 e9 f9); obtain ⟨u9, e9, f9⟩ := hM.mid R; have q7 := hM.hX.at; have f7 := hM.hX.frozen; have q8 := hM.hY.at; have f8 := hM.hY.frozen; unfold frBox at q7 q8))
    all_goals go_wp2_with fail
    all_goals go_meet
    all_goals exact ⟨rfl, hM.wire R⟩
  case rest =>
    obtain ⟨rfl, hM⟩ := hcut
    obtain ⟨X1, hX1⟩ : ∃ X1 : Fr, ({ X0 with R := R } : Fr) = X1 := ⟨_, rfl⟩
    obtain ⟨Y1, hY1⟩ : ∃ Y1 : Fr, ({ Y0 with R := R } : Fr) = Y1 := ⟨_, rfl⟩
    rw [hX1, hY1] at hM
    rw [hX1] at HOX
    rw [hY1] at HOY
    have HX1 := Lib.hid hX1
    have HY1 := Lib.hid hY1
    clear hX1 hY1
    have HTx := Lib.hid (fun W (h : RowT W a17 X1.E) => rText_ok d da dc X1 a17 c17 W hok HOX.out h)
    have HTy := Lib.hid (fun W (h : RowT W a18 Y1.E) => rText_ok d da dc Y1 a18 c18 W hok HOY.out h)
    have lx : (textF X1).length ≤ 1048576 := by
      have h1 := textF_length X1
      have h2 := (ok_small hok HOX.out).2.2.2.2.2
      omega
    have ly : (textF Y1).length ≤ 1048576 := by
      have h1 := textF_length Y1
      have h2 := (ok_small hok HOY.out).2.2.2.2.2
      omega
    have n6 := hok.n6; have n12 := hok.n12; have nl := hok.len
    have hXS : X1.S < d.N ∧ Y1.S = X1.S ∧ X1.R = R ∧ Y1.R = R := by
      have e1 := HSX.out
      have e2 := HSY.out
      refine ⟨?_, ?_, ?_, ?_⟩
      · rw [← HX1.out]
        show X0.S < d.N
        rw [e1, Int.emod_eq_of_lt y0 (by unfold slotsI; omega)]
        omega
      · rw [← HX1.out, ← HY1.out]
        show Y0.S = X0.S
        rw [e1, e2]
      · rw [← HX1.out]
      · rw [← HY1.out]
    have lx : (textF X1).length ≤ 1048576 := by
      have h1 := textF_length X1
      have h2 := (ok_small hok HOX.out).2.2.2.2.2
      omega
    have ly : (textF Y1).length ≤ 1048576 := by
      have h1 := textF_length Y1
      have h2 := (ok_small hok HOY.out).2.2.2.2.2
      omega
    have lx1 : 1 ≤ (textF X1).length := by rw [textF_length]; omega
    have HT10 := Lib.hid (fun (k : Nat) (hk : k < 10) => rule_ten (r := r) hok HOX.out HOY.out (hXS.2.2.1.trans HRw.out) (hXS.2.2.2.trans HRw.out) hXS.2.1 hXS.1 k hk)
    clear hXS HSX HSY HX1 HY1 HRw nl
    generalize textF X1 = tx at *
    generalize textF Y1 = ty at *
    have hD := hM.hD
    have hXb := hM.hX
    have hYb := hM.hY
    have hrx := hM.hrx
    have hry := hM.hry
    go_upto_region 10 with fail
    refine region_slots [some 60, some 61, some 62, some 63, some 64, some 65, some 19, some 20] [none, none, none, none, none, none, none, none] 201 8 rfl (by kernel_rfl) (by kernel_rfl) rfl rfl ?_
    apply step_fix
    · intro a W Zs hS hFm hz hd
      have h15 := hFm.old 15 rfl
      conv at h15 => rhs; whnf
      replace h15 := ev_get hFm.size h15
      have hq := (hD.drew1.later hS).at
      unfold confBox at hq
      refine .inl ⟨wanted_none rfl _, fun K hK => ?_⟩
      have HK := Lib.hid hK
      clear hd hFm hK
      go_simp
      exact HK.out _ _ rfl (Below.refl _ _)
    simp only [List.nil_append, List.cons_append]
    apply step_fix
    · intro a W Zs hS hFm hz hd
      have h17 := hFm.old 17 rfl
      conv at h17 => rhs; whnf
      replace h17 := ev_get hFm.size h17
      have hq := (hXb.drew1.later hS).at
      unfold frBox at hq
      refine .inl ⟨wanted_none rfl _, fun K hK => ?_⟩
      have HK := Lib.hid hK
      clear hd hFm hK
      go_simp
      exact HK.out _ _ rfl (Below.refl _ _)
    simp only [List.nil_append, List.cons_append]
    apply step_fix
    · intro a W Zs hS hFm hz hd
      have h60 := ev_get hFm.size (hd 0 60 rfl rfl)
      have h61 := ev_get hFm.size (hd 1 61 rfl rfl)
      refine .inl ⟨wanted_none rfl _, fun K hK => ?_⟩
      have HK := Lib.hid hK
      clear hd hFm hK
      go_simp
      refine (HTx.out _ (hrx.drew1.later hS)).mono ?_
      rintro e W' ⟨rfl, hb⟩
      exact HK.out _ _ rfl hb
    simp only [List.nil_append, List.cons_append]
    apply step_fix
    · intro a W Zs hS hFm hz hd
      have h15 := hFm.old 15 rfl
      conv at h15 => rhs; whnf
      replace h15 := ev_get hFm.size h15
      have hq := (hD.drew1.later hS).at
      unfold confBox at hq
      refine .inl ⟨wanted_none rfl _, fun K hK => ?_⟩
      have HK := Lib.hid hK
      clear hd hFm hK
      go_simp
      exact HK.out _ _ rfl (Below.refl _ _)
    simp only [List.nil_append, List.cons_append]
    apply step_fix
    · intro a W Zs hS hFm hz hd
      have h18 := hFm.old 18 rfl
      conv at h18 => rhs; whnf
      replace h18 := ev_get hFm.size h18
      have hq := (hYb.drew1.later hS).at
      unfold frBox at hq
      refine .inl ⟨wanted_none rfl _, fun K hK => ?_⟩
      have HK := Lib.hid hK
      clear hd hFm hK
      go_simp
      exact HK.out _ _ rfl (Below.refl _ _)
    simp only [List.nil_append, List.cons_append]
    apply step_fix
    · intro a W Zs hS hFm hz hd
      have h63 := ev_get hFm.size (hd 3 63 rfl rfl)
      have h64 := ev_get hFm.size (hd 4 64 rfl rfl)
      refine .inl ⟨wanted_none rfl _, fun K hK => ?_⟩
      have HK := Lib.hid hK
      clear hd hFm hK
      go_simp
      refine (HTy.out _ (hry.drew1.later hS)).mono ?_
      rintro e W' ⟨rfl, hb⟩
      exact HK.out _ _ rfl hb
    simp only [List.nil_append, List.cons_append]
    apply step_fix
    · intro a W Zs hS hFm hz hd
      have h62 := ev_get hFm.size (hd 2 62 rfl rfl)
      refine .inl ⟨wanted_none rfl _, fun K hK => ?_⟩
      have HK := Lib.hid hK
      clear hd hFm hK
      go_simp
      exact HK.out _ _ rfl (Below.refl _ _)
    simp only [List.nil_append, List.cons_append]
    apply step_fix
    · intro a W Zs hS hFm hz hd
      have h65 := ev_get hFm.size (hd 5 65 rfl rfl)
      refine .inl ⟨wanted_none rfl _, fun K hK => ?_⟩
      have HK := Lib.hid hK
      clear hd hFm hK
      go_simp
      exact HK.out _ _ rfl (Below.refl _ _)
    simp only [List.nil_append, List.cons_append]
    intro a w7 Zs hS hFm hz hd
    have e19 := hd 6 19 (by decide) rfl
    have e20 := hd 7 20 (by decide) rfl
    have e0 := hFm.old 0 rfl
    conv at e0 => rhs; whnf
    have e1 := hFm.old 1 rfl
    conv at e1 => rhs; whnf
    have e2 := hFm.old 2 rfl
    conv at e2 => rhs; whnf
    have e3 := hFm.old 3 rfl
    conv at e3 => rhs; whnf
    have e4 := hFm.old 4 rfl
    conv at e4 => rhs; whnf
    have e5 := hFm.old 5 rfl
    conv at e5 => rhs; whnf
    have e6 := hFm.old 6 rfl
    conv at e6 => rhs; whnf
    have e7 := hFm.old 7 rfl
    conv at e7 => rhs; whnf
    have e8 := hFm.old 8 rfl
    conv at e8 => rhs; whnf
    have e9 := hFm.old 9 rfl
    conv at e9 => rhs; whnf
    have e10 := hFm.old 10 rfl
    conv at e10 => rhs; whnf
    have e11 := hFm.old 11 rfl
    conv at e11 => rhs; whnf
    have e12 := hFm.old 12 rfl
    conv at e12 => rhs; whnf
    have e13 := hFm.old 13 rfl
    conv at e13 => rhs; whnf
    have e14 := hFm.old 14 rfl
    conv at e14 => rhs; whnf
    have e15 := hFm.old 15 rfl
    conv at e15 => rhs; whnf
    have e16 := hFm.old 16 rfl
    conv at e16 => rhs; whnf
    have e17 := hFm.old 17 rfl
    conv at e17 => rhs; whnf
    have e18 := hFm.old 18 rfl
    conv at e18 => rhs; whnf
    have e21 := hFm.old 21 rfl
    conv at e21 => rhs; whnf
    have e22 := hFm.old 22 rfl
    conv at e22 => rhs; whnf
    have e23 := hFm.old 23 rfl
    conv at e23 => rhs; whnf
    have e24 := hFm.old 24 rfl
    conv at e24 => rhs; whnf
    have e25 := hFm.old 25 rfl
    conv at e25 => rhs; whnf
    have e26 := hFm.old 26 rfl
    conv at e26 => rhs; whnf
    have e27 := hFm.old 27 rfl
    conv at e27 => rhs; whnf
    have e28 := hFm.old 28 rfl
    conv at e28 => rhs; whnf
    have e29 := hFm.old 29 rfl
    conv at e29 => rhs; whnf
    have e30 := hFm.old 30 rfl
    conv at e30 => rhs; whnf
    have e31 := hFm.old 31 rfl
    conv at e31 => rhs; whnf
    have e32 := hFm.old 32 rfl
    conv at e32 => rhs; whnf
    have e33 := hFm.old 33 rfl
    conv at e33 => rhs; whnf
    have e34 := hFm.old 34 rfl
    conv at e34 => rhs; whnf
    have e35 := hFm.old 35 rfl
    conv at e35 => rhs; whnf
    have e36 := hFm.old 36 rfl
    conv at e36 => rhs; whnf
    have e37 := hFm.old 37 rfl
    conv at e37 => rhs; whnf
    have e38 := hFm.old 38 rfl
    conv at e38 => rhs; whnf
    have e39 := hFm.old 39 rfl
    conv at e39 => rhs; whnf
    have e40 := hFm.old 40 rfl
    conv at e40 => rhs; whnf
    have e41 := hFm.old 41 rfl
    conv at e41 => rhs; whnf
    have e42 := hFm.old 42 rfl
    conv at e42 => rhs; whnf
    have e43 := hFm.old 43 rfl
    conv at e43 => rhs; whnf
    have e44 := hFm.old 44 rfl
    conv at e44 => rhs; whnf
    have e45 := hFm.old 45 rfl
    conv at e45 => rhs; whnf
    have e46 := hFm.old 46 rfl
    conv at e46 => rhs; whnf
    have e47 := hFm.old 47 rfl
    conv at e47 => rhs; whnf
    have e48 := hFm.old 48 rfl
    conv at e48 => rhs; whnf
    have e49 := hFm.old 49 rfl
    conv at e49 => rhs; whnf
    have e50 := hFm.old 50 rfl
    conv at e50 => rhs; whnf
    have e51 := hFm.old 51 rfl
    conv at e51 => rhs; whnf
    have e52 := hFm.old 52 rfl
    conv at e52 => rhs; whnf
    have e53 := hFm.old 53 rfl
    conv at e53 => rhs; whnf
    have e54 := hFm.old 54 rfl
    conv at e54 => rhs; whnf
    have e55 := hFm.old 55 rfl
    conv at e55 => rhs; whnf
    have e56 := hFm.old 56 rfl
    conv at e56 => rhs; whnf
    have e57 := hFm.old 57 rfl
    conv at e57 => rhs; whnf
    have e58 := hFm.old 58 rfl
    conv at e58 => rhs; whnf
    have e59 := hFm.old 59 rfl
    conv at e59 => rhs; whnf
    have e66 := hFm.old 66 rfl
    conv at e66 => rhs; whnf
    have e67 := hFm.old 67 rfl
    conv at e67 => rhs; whnf
    have e68 := hFm.old 68 rfl
    conv at e68 => rhs; whnf
    have e69 := hFm.old 69 rfl
    conv at e69 => rhs; whnf
    have e70 := hFm.old 70 rfl
    conv at e70 => rhs; whnf
    have e71 := hFm.old 71 rfl
    conv at e71 => rhs; whnf
    have e72 := hFm.old 72 rfl
    conv at e72 => rhs; whnf
    have e73 := hFm.old 73 rfl
    conv at e73 => rhs; whnf
    have e74 := hFm.old 74 rfl
    conv at e74 => rhs; whnf
    have e75 := hFm.old 75 rfl
    conv at e75 => rhs; whnf
    have e76 := hFm.old 76 rfl
    conv at e76 => rhs; whnf
    have e77 := hFm.old 77 rfl
    conv at e77 => rhs; whnf
    have e78 := hFm.old 78 rfl
    conv at e78 => rhs; whnf
    have e79 := hFm.old 79 rfl
    conv at e79 => rhs; whnf
    have e80 := hFm.old 80 rfl
    conv at e80 => rhs; whnf
    have e81 := hFm.old 81 rfl
    conv at e81 => rhs; whnf
    have e82 := hFm.old 82 rfl
    conv at e82 => rhs; whnf
    have e83 := hFm.old 83 rfl
    conv at e83 => rhs; whnf
    have e84 := hFm.old 84 rfl
    conv at e84 => rhs; whnf
    have e85 := hFm.old 85 rfl
    conv at e85 => rhs; whnf
    have e86 := hFm.old 86 rfl
    conv at e86 => rhs; whnf
    have e87 := hFm.old 87 rfl
    conv at e87 => rhs; whnf
    have e88 := hFm.old 88 rfl
    conv at e88 => rhs; whnf
    have e89 := hFm.old 89 rfl
    conv at e89 => rhs; whnf
    have e90 := hFm.old 90 rfl
    conv at e90 => rhs; whnf
    have e91 := hFm.old 91 rfl
    conv at e91 => rhs; whnf
    have e92 := hFm.old 92 rfl
    conv at e92 => rhs; whnf
    have e93 := hFm.old 93 rfl
    conv at e93 => rhs; whnf
    have e94 := hFm.old 94 rfl
    conv at e94 => rhs; whnf
    have e95 := hFm.old 95 rfl
    conv at e95 => rhs; whnf
    have e96 := hFm.old 96 rfl
    conv at e96 => rhs; whnf
    have e97 := hFm.old 97 rfl
    conv at e97 => rhs; whnf
    have e98 := hFm.old 98 rfl
    conv at e98 => rhs; whnf
    have e99 := hFm.old 99 rfl
    conv at e99 => rhs; whnf
    have e100 := hFm.old 100 rfl
    conv at e100 => rhs; whnf
    have e101 := hFm.old 101 rfl
    conv at e101 => rhs; whnf
    have e102 := hFm.old 102 rfl
    conv at e102 => rhs; whnf
    have e103 := hFm.old 103 rfl
    conv at e103 => rhs; whnf
    have e104 := hFm.old 104 rfl
    conv at e104 => rhs; whnf
    have e105 := hFm.old 105 rfl
    conv at e105 => rhs; whnf
    have e106 := hFm.old 106 rfl
    conv at e106 => rhs; whnf
    have e107 := hFm.old 107 rfl
    conv at e107 => rhs; whnf
    have e108 := hFm.old 108 rfl
    conv at e108 => rhs; whnf
    have e109 := hFm.old 109 rfl
    conv at e109 => rhs; whnf
    have e110 := hFm.old 110 rfl
    conv at e110 => rhs; whnf
    have e111 := hFm.old 111 rfl
    conv at e111 => rhs; whnf
    have e112 := hFm.old 112 rfl
    conv at e112 => rhs; whnf
    have e113 := hFm.old 113 rfl
    conv at e113 => rhs; whnf
    have e114 := hFm.old 114 rfl
    conv at e114 => rhs; whnf
    have e115 := hFm.old 115 rfl
    conv at e115 => rhs; whnf
    have e116 := hFm.old 116 rfl
    conv at e116 => rhs; whnf
    have e117 := hFm.old 117 rfl
    conv at e117 => rhs; whnf
    have e118 := hFm.old 118 rfl
    conv at e118 => rhs; whnf
    have e119 := hFm.old 119 rfl
    conv at e119 => rhs; whnf
    have e120 := hFm.old 120 rfl
    conv at e120 => rhs; whnf
    have e121 := hFm.old 121 rfl
    conv at e121 => rhs; whnf
    have e122 := hFm.old 122 rfl
    conv at e122 => rhs; whnf
    have e123 := hFm.old 123 rfl
    conv at e123 => rhs; whnf
    have e124 := hFm.old 124 rfl
    conv at e124 => rhs; whnf
    have e125 := hFm.old 125 rfl
    conv at e125 => rhs; whnf
    have e126 := hFm.old 126 rfl
    conv at e126 => rhs; whnf
    have e127 := hFm.old 127 rfl
    conv at e127 => rhs; whnf
    have e128 := hFm.old 128 rfl
    conv at e128 => rhs; whnf
    have e129 := hFm.old 129 rfl
    conv at e129 => rhs; whnf
    have e130 := hFm.old 130 rfl
    conv at e130 => rhs; whnf
    have e131 := hFm.old 131 rfl
    conv at e131 => rhs; whnf
    have e132 := hFm.old 132 rfl
    conv at e132 => rhs; whnf
    have e133 := hFm.old 133 rfl
    conv at e133 => rhs; whnf
    have e134 := hFm.old 134 rfl
    conv at e134 => rhs; whnf
    have e135 := hFm.old 135 rfl
    conv at e135 => rhs; whnf
    have e136 := hFm.old 136 rfl
    conv at e136 => rhs; whnf
    have e137 := hFm.old 137 rfl
    conv at e137 => rhs; whnf
    have e138 := hFm.old 138 rfl
    conv at e138 => rhs; whnf
    have e139 := hFm.old 139 rfl
    conv at e139 => rhs; whnf
    have e140 := hFm.old 140 rfl
    conv at e140 => rhs; whnf
    have e141 := hFm.old 141 rfl
    conv at e141 => rhs; whnf
    have e142 := hFm.old 142 rfl
    conv at e142 => rhs; whnf
    have e143 := hFm.old 143 rfl
    conv at e143 => rhs; whnf
    have e144 := hFm.old 144 rfl
    conv at e144 => rhs; whnf
    have e145 := hFm.old 145 rfl
    conv at e145 => rhs; whnf
    have e146 := hFm.old 146 rfl
    conv at e146 => rhs; whnf
    have e147 := hFm.old 147 rfl
    conv at e147 => rhs; whnf
    have e148 := hFm.old 148 rfl
    conv at e148 => rhs; whnf
    have e149 := hFm.old 149 rfl
    conv at e149 => rhs; whnf
    have e150 := hFm.old 150 rfl
    conv at e150 => rhs; whnf
    have e151 := hFm.old 151 rfl
    conv at e151 => rhs; whnf
    have e152 := hFm.old 152 rfl
    conv at e152 => rhs; whnf
    have e153 := hFm.old 153 rfl
    conv at e153 => rhs; whnf
    have e154 := hFm.old 154 rfl
    conv at e154 => rhs; whnf
    have e155 := hFm.old 155 rfl
    conv at e155 => rhs; whnf
    have e156 := hFm.old 156 rfl
    conv at e156 => rhs; whnf
    have e157 := hFm.old 157 rfl
    conv at e157 => rhs; whnf
    have e158 := hFm.old 158 rfl
    conv at e158 => rhs; whnf
    have e159 := hFm.old 159 rfl
    conv at e159 => rhs; whnf
    have e160 := hFm.old 160 rfl
    conv at e160 => rhs; whnf
    have e161 := hFm.old 161 rfl
    conv at e161 => rhs; whnf
    have e162 := hFm.old 162 rfl
    conv at e162 => rhs; whnf
    have e163 := hFm.old 163 rfl
    conv at e163 => rhs; whnf
    have e164 := hFm.old 164 rfl
    conv at e164 => rhs; whnf
    have e165 := hFm.old 165 rfl
    conv at e165 => rhs; whnf
    have e166 := hFm.old 166 rfl
    conv at e166 => rhs; whnf
    have e167 := hFm.old 167 rfl
    conv at e167 => rhs; whnf
    have e168 := hFm.old 168 rfl
    conv at e168 => rhs; whnf
    have e169 := hFm.old 169 rfl
    conv at e169 => rhs; whnf
    have e170 := hFm.old 170 rfl
    conv at e170 => rhs; whnf
    have e171 := hFm.old 171 rfl
    conv at e171 => rhs; whnf
    have e172 := hFm.old 172 rfl
    conv at e172 => rhs; whnf
    have e173 := hFm.old 173 rfl
    conv at e173 => rhs; whnf
    have e174 := hFm.old 174 rfl
    conv at e174 => rhs; whnf
    have e175 := hFm.old 175 rfl
    conv at e175 => rhs; whnf
    have e176 := hFm.old 176 rfl
    conv at e176 => rhs; whnf
    have e177 := hFm.old 177 rfl
    conv at e177 => rhs; whnf
    have e178 := hFm.old 178 rfl
    conv at e178 => rhs; whnf
    have e179 := hFm.old 179 rfl
    conv at e179 => rhs; whnf
    have e180 := hFm.old 180 rfl
    conv at e180 => rhs; whnf
    have e181 := hFm.old 181 rfl
    conv at e181 => rhs; whnf
    have e182 := hFm.old 182 rfl
    conv at e182 => rhs; whnf
    have e183 := hFm.old 183 rfl
    conv at e183 => rhs; whnf
    have e184 := hFm.old 184 rfl
    conv at e184 => rhs; whnf
    have e185 := hFm.old 185 rfl
    conv at e185 => rhs; whnf
    have e186 := hFm.old 186 rfl
    conv at e186 => rhs; whnf
    have e187 := hFm.old 187 rfl
    conv at e187 => rhs; whnf
    have e188 := hFm.old 188 rfl
    conv at e188 => rhs; whnf
    have e189 := hFm.old 189 rfl
    conv at e189 => rhs; whnf
    have e190 := hFm.old 190 rfl
    conv at e190 => rhs; whnf
    have e191 := hFm.old 191 rfl
    conv at e191 => rhs; whnf
    have e192 := hFm.old 192 rfl
    conv at e192 => rhs; whnf
    have e193 := hFm.old 193 rfl
    conv at e193 => rhs; whnf
    have e194 := hFm.old 194 rfl
    conv at e194 => rhs; whnf
    have e195 := hFm.old 195 rfl
    conv at e195 => rhs; whnf
    have e196 := hFm.old 196 rfl
    conv at e196 => rhs; whnf
    have e197 := hFm.old 197 rfl
    conv at e197 => rhs; whnf
    have e198 := hFm.old 198 rfl
    conv at e198 => rhs; whnf
    have e199 := hFm.old 199 rfl
    conv at e199 => rhs; whnf
    have e200 := hFm.old 200 rfl
    conv at e200 => rhs; whnf
    have hsz := hFm.size
    have hdf := hFm.defers
    clear hd hFm
    obtain ⟨t, df⟩ := a
    simp only at hsz hdf
    subst hdf
    obtain ⟨x, hx⟩ : ∃ x : Nat → Value, ∀ i, t.getD i undef = x i := ⟨fun i => t.getD i undef, fun _ => rfl⟩
    have h19 := (hx 19).symm.trans e19
    have h20 := (hx 20).symm.trans e20
    have h0 := (hx 0).symm.trans e0
    have h1 := (hx 1).symm.trans e1
    have h2 := (hx 2).symm.trans e2
    have h3 := (hx 3).symm.trans e3
    have h4 := (hx 4).symm.trans e4
    have h5 := (hx 5).symm.trans e5
    have h6 := (hx 6).symm.trans e6
    have h7 := (hx 7).symm.trans e7
    have h8 := (hx 8).symm.trans e8
    have h9 := (hx 9).symm.trans e9
    have h10 := (hx 10).symm.trans e10
    have h11 := (hx 11).symm.trans e11
    have h12 := (hx 12).symm.trans e12
    have h13 := (hx 13).symm.trans e13
    have h14 := (hx 14).symm.trans e14
    have h15 := (hx 15).symm.trans e15
    have h16 := (hx 16).symm.trans e16
    have h17 := (hx 17).symm.trans e17
    have h18 := (hx 18).symm.trans e18
    have h21 := (hx 21).symm.trans e21
    have h22 := (hx 22).symm.trans e22
    have h23 := (hx 23).symm.trans e23
    have h24 := (hx 24).symm.trans e24
    have h25 := (hx 25).symm.trans e25
    have h26 := (hx 26).symm.trans e26
    have h27 := (hx 27).symm.trans e27
    have h28 := (hx 28).symm.trans e28
    have h29 := (hx 29).symm.trans e29
    have h30 := (hx 30).symm.trans e30
    have h31 := (hx 31).symm.trans e31
    have h32 := (hx 32).symm.trans e32
    have h33 := (hx 33).symm.trans e33
    have h34 := (hx 34).symm.trans e34
    have h35 := (hx 35).symm.trans e35
    have h36 := (hx 36).symm.trans e36
    have h37 := (hx 37).symm.trans e37
    have h38 := (hx 38).symm.trans e38
    have h39 := (hx 39).symm.trans e39
    have h40 := (hx 40).symm.trans e40
    have h41 := (hx 41).symm.trans e41
    have h42 := (hx 42).symm.trans e42
    have h43 := (hx 43).symm.trans e43
    have h44 := (hx 44).symm.trans e44
    have h45 := (hx 45).symm.trans e45
    have h46 := (hx 46).symm.trans e46
    have h47 := (hx 47).symm.trans e47
    have h48 := (hx 48).symm.trans e48
    have h49 := (hx 49).symm.trans e49
    have h50 := (hx 50).symm.trans e50
    have h51 := (hx 51).symm.trans e51
    have h52 := (hx 52).symm.trans e52
    have h53 := (hx 53).symm.trans e53
    have h54 := (hx 54).symm.trans e54
    have h55 := (hx 55).symm.trans e55
    have h56 := (hx 56).symm.trans e56
    have h57 := (hx 57).symm.trans e57
    have h58 := (hx 58).symm.trans e58
    have h59 := (hx 59).symm.trans e59
    have h66 := (hx 66).symm.trans e66
    have h67 := (hx 67).symm.trans e67
    have h68 := (hx 68).symm.trans e68
    have h69 := (hx 69).symm.trans e69
    have h70 := (hx 70).symm.trans e70
    have h71 := (hx 71).symm.trans e71
    have h72 := (hx 72).symm.trans e72
    have h73 := (hx 73).symm.trans e73
    have h74 := (hx 74).symm.trans e74
    have h75 := (hx 75).symm.trans e75
    have h76 := (hx 76).symm.trans e76
    have h77 := (hx 77).symm.trans e77
    have h78 := (hx 78).symm.trans e78
    have h79 := (hx 79).symm.trans e79
    have h80 := (hx 80).symm.trans e80
    have h81 := (hx 81).symm.trans e81
    have h82 := (hx 82).symm.trans e82
    have h83 := (hx 83).symm.trans e83
    have h84 := (hx 84).symm.trans e84
    have h85 := (hx 85).symm.trans e85
    have h86 := (hx 86).symm.trans e86
    have h87 := (hx 87).symm.trans e87
    have h88 := (hx 88).symm.trans e88
    have h89 := (hx 89).symm.trans e89
    have h90 := (hx 90).symm.trans e90
    have h91 := (hx 91).symm.trans e91
    have h92 := (hx 92).symm.trans e92
    have h93 := (hx 93).symm.trans e93
    have h94 := (hx 94).symm.trans e94
    have h95 := (hx 95).symm.trans e95
    have h96 := (hx 96).symm.trans e96
    have h97 := (hx 97).symm.trans e97
    have h98 := (hx 98).symm.trans e98
    have h99 := (hx 99).symm.trans e99
    have h100 := (hx 100).symm.trans e100
    have h101 := (hx 101).symm.trans e101
    have h102 := (hx 102).symm.trans e102
    have h103 := (hx 103).symm.trans e103
    have h104 := (hx 104).symm.trans e104
    have h105 := (hx 105).symm.trans e105
    have h106 := (hx 106).symm.trans e106
    have h107 := (hx 107).symm.trans e107
    have h108 := (hx 108).symm.trans e108
    have h109 := (hx 109).symm.trans e109
    have h110 := (hx 110).symm.trans e110
    have h111 := (hx 111).symm.trans e111
    have h112 := (hx 112).symm.trans e112
    have h113 := (hx 113).symm.trans e113
    have h114 := (hx 114).symm.trans e114
    have h115 := (hx 115).symm.trans e115
    have h116 := (hx 116).symm.trans e116
    have h117 := (hx 117).symm.trans e117
    have h118 := (hx 118).symm.trans e118
    have h119 := (hx 119).symm.trans e119
    have h120 := (hx 120).symm.trans e120
    have h121 := (hx 121).symm.trans e121
    have h122 := (hx 122).symm.trans e122
    have h123 := (hx 123).symm.trans e123
    have h124 := (hx 124).symm.trans e124
    have h125 := (hx 125).symm.trans e125
    have h126 := (hx 126).symm.trans e126
    have h127 := (hx 127).symm.trans e127
    have h128 := (hx 128).symm.trans e128
    have h129 := (hx 129).symm.trans e129
    have h130 := (hx 130).symm.trans e130
    have h131 := (hx 131).symm.trans e131
    have h132 := (hx 132).symm.trans e132
    have h133 := (hx 133).symm.trans e133
    have h134 := (hx 134).symm.trans e134
    have h135 := (hx 135).symm.trans e135
    have h136 := (hx 136).symm.trans e136
    have h137 := (hx 137).symm.trans e137
    have h138 := (hx 138).symm.trans e138
    have h139 := (hx 139).symm.trans e139
    have h140 := (hx 140).symm.trans e140
    have h141 := (hx 141).symm.trans e141
    have h142 := (hx 142).symm.trans e142
    have h143 := (hx 143).symm.trans e143
    have h144 := (hx 144).symm.trans e144
    have h145 := (hx 145).symm.trans e145
    have h146 := (hx 146).symm.trans e146
    have h147 := (hx 147).symm.trans e147
    have h148 := (hx 148).symm.trans e148
    have h149 := (hx 149).symm.trans e149
    have h150 := (hx 150).symm.trans e150
    have h151 := (hx 151).symm.trans e151
    have h152 := (hx 152).symm.trans e152
    have h153 := (hx 153).symm.trans e153
    have h154 := (hx 154).symm.trans e154
    have h155 := (hx 155).symm.trans e155
    have h156 := (hx 156).symm.trans e156
    have h157 := (hx 157).symm.trans e157
    have h158 := (hx 158).symm.trans e158
    have h159 := (hx 159).symm.trans e159
    have h160 := (hx 160).symm.trans e160
    have h161 := (hx 161).symm.trans e161
    have h162 := (hx 162).symm.trans e162
    have h163 := (hx 163).symm.trans e163
    have h164 := (hx 164).symm.trans e164
    have h165 := (hx 165).symm.trans e165
    have h166 := (hx 166).symm.trans e166
    have h167 := (hx 167).symm.trans e167
    have h168 := (hx 168).symm.trans e168
    have h169 := (hx 169).symm.trans e169
    have h170 := (hx 170).symm.trans e170
    have h171 := (hx 171).symm.trans e171
    have h172 := (hx 172).symm.trans e172
    have h173 := (hx 173).symm.trans e173
    have h174 := (hx 174).symm.trans e174
    have h175 := (hx 175).symm.trans e175
    have h176 := (hx 176).symm.trans e176
    have h177 := (hx 177).symm.trans e177
    have h178 := (hx 178).symm.trans e178
    have h179 := (hx 179).symm.trans e179
    have h180 := (hx 180).symm.trans e180
    have h181 := (hx 181).symm.trans e181
    have h182 := (hx 182).symm.trans e182
    have h183 := (hx 183).symm.trans e183
    have h184 := (hx 184).symm.trans e184
    have h185 := (hx 185).symm.trans e185
    have h186 := (hx 186).symm.trans e186
    have h187 := (hx 187).symm.trans e187
    have h188 := (hx 188).symm.trans e188
    have h189 := (hx 189).symm.trans e189
    have h190 := (hx 190).symm.trans e190
    have h191 := (hx 191).symm.trans e191
    have h192 := (hx 192).symm.trans e192
    have h193 := (hx 193).symm.trans e193
    have h194 := (hx 194).symm.trans e194
    have h195 := (hx 195).symm.trans e195
    have h196 := (hx 196).symm.trans e196
    have h197 := (hx 197).symm.trans e197
    have h198 := (hx 198).symm.trans e198
    have h199 := (hx 199).symm.trans e199
    have h200 := (hx 200).symm.trans e200
    have ht' : t = #[x 0, x 1, x 2, x 3, x 4, x 5, x 6, x 7, x 8, x 9, x 10, x 11, x 12, x 13, x 14, x 15, x 16, x 17, x 18, x 19, x 20, x 21, x 22, x 23, x 24, x 25, x 26, x 27, x 28, x 29, x 30, x 31, x 32, x 33, x 34, x 35, x 36, x 37, x 38, x 39, x 40, x 41, x 42, x 43, x 44, x 45, x 46, x 47, x 48, x 49, x 50, x 51, x 52, x 53, x 54, x 55, x 56, x 57, x 58, x 59, x 60, x 61, x 62, x 63, x 64, x 65, x 66, x 67, x 68, x 69, x 70, x 71, x 72, x 73, x 74, x 75, x 76, x 77, x 78, x 79, x 80, x 81, x 82, x 83, x 84, x 85, x 86, x 87, x 88, x 89, x 90, x 91, x 92, x 93, x 94, x 95, x 96, x 97, x 98, x 99, x 100, x 101, x 102, x 103, x 104, x 105, x 106, x 107, x 108, x 109, x 110, x 111, x 112, x 113, x 114, x 115, x 116, x 117, x 118, x 119, x 120, x 121, x 122, x 123, x 124, x 125, x 126, x 127, x 128, x 129, x 130, x 131, x 132, x 133, x 134, x 135, x 136, x 137, x 138, x 139, x 140, x 141, x 142, x 143, x 144, x 145, x 146, x 147, x 148, x 149, x 150, x 151, x 152, x 153, x 154, x 155, x 156, x 157, x 158, x 159, x 160, x 161, x 162, x 163, x 164, x 165, x 166, x 167, x 168, x 169, x 170, x 171, x 172, x 173, x 174, x 175, x 176, x 177, x 178, x 179, x 180, x 181, x 182, x 183, x 184, x 185, x 186, x 187, x 188, x 189, x 190, x 191, x 192, x 193, x 194, x 195, x 196, x 197, x 198, x 199, x 200] := frame_lit t 201 hsz x hx
    clear hx hsz hz e19 e20 e0 e1 e2 e3 e4 e5 e6 e7 e8 e9 e10 e11 e12 e13 e14 e15 e16 e17 e18 e21 e22 e23 e24 e25 e26 e27 e28 e29 e30 e31 e32 e33 e34 e35 e36 e37 e38 e39 e40 e41 e42 e43 e44 e45 e46 e47 e48 e49 e50 e51 e52 e53 e54 e55 e56 e57 e58 e59 e66 e67 e68 e69 e70 e71 e72 e73 e74 e75 e76 e77 e78 e79 e80 e81 e82 e83 e84 e85 e86 e87 e88 e89 e90 e91 e92 e93 e94 e95 e96 e97 e98 e99 e100 e101 e102 e103 e104 e105 e106 e107 e108 e109 e110 e111 e112 e113 e114 e115 e116 e117 e118 e119 e120 e121 e122 e123 e124 e125 e126 e127 e128 e129 e130 e131 e132 e133 e134 e135 e136 e137 e138 e139 e140 e141 e142 e143 e144 e145 e146 e147 e148 e149 e150 e151 e152 e153 e154 e155 e156 e157 e158 e159 e160 e161 e162 e163 e164 e165 e166 e167 e168 e169 e170 e171 e172 e173 e174 e175 e176 e177 e178 e179 e180 e181 e182 e183 e184 e185 e186 e187 e188 e189 e190 e191 e192 e193 e194 e195 e196 e197 e198 e199 e200
    subst ht'
    (try dsimp only)
    rw [h19, h20, h0, h1, h2, h3, h4, h5, h6, h7, h8, h9, h10, h11, h12, h13, h14, h15, h16, h17, h18, h21, h22, h23, h24, h25, h26, h27, h28, h29, h30, h31, h32, h33, h34, h35, h36, h37, h38, h39, h40, h41, h42, h43, h44, h45, h46, h47, h48, h49, h50, h51, h52, h53, h54, h55, h56, h57, h58, h59, h66, h67, h68, h69, h70, h71, h72, h73, h74, h75, h76, h77, h78, h79, h80, h81, h82, h83, h84, h85, h86, h87, h88, h89, h90, h91, h92, h93, h94, h95, h96, h97, h98, h99, h100, h101, h102, h103, h104, h105, h106, h107, h108, h109, h110, h111, h112, h113, h114, h115, h116, h117, h118, h119, h120, h121, h122, h123, h124, h125, h126, h127, h128, h129, h130, h131, h132, h133, h134, h135, h136, h137, h138, h139, h140, h141, h142, h143, h144, h145, h146, h147, h148, h149, h150, h151, h152, h153, h154, h155, h156, h157, h158, h159, h160, h161, h162, h163, h164, h165, h166, h167, h168, h169, h170, h171, h172, h173, h174, h175, h176, h177, h178, h179, h180, h181, h182, h183, h184, h185, h186, h187, h188, h189, h190, h191, h192, h193, h194, h195, h196, h197, h198, h199, h200]
    clear h19 h20 h0 h1 h2 h3 h4 h5 h6 h7 h8 h9 h10 h11 h12 h13 h14 h15 h16 h17 h18 h21 h22 h23 h24 h25 h26 h27 h28 h29 h30 h31 h32 h33 h34 h35 h36 h37 h38 h39 h40 h41 h42 h43 h44 h45 h46 h47 h48 h49 h50 h51 h52 h53 h54 h55 h56 h57 h58 h59 h66 h67 h68 h69 h70 h71 h72 h73 h74 h75 h76 h77 h78 h79 h80 h81 h82 h83 h84 h85 h86 h87 h88 h89 h90 h91 h92 h93 h94 h95 h96 h97 h98 h99 h100 h101 h102 h103 h104 h105 h106 h107 h108 h109 h110 h111 h112 h113 h114 h115 h116 h117 h118 h119 h120 h121 h122 h123 h124 h125 h126 h127 h128 h129 h130 h131 h132 h133 h134 h135 h136 h137 h138 h139 h140 h141 h142 h143 h144 h145 h146 h147 h148 h149 h150 h151 h152 h153 h154 h155 h156 h157 h158 h159 h160 h161 h162 h163 h164 h165 h166 h167 h168 h169 h170 h171 h172 h173 h174 h175 h176 h177 h178 h179 h180 h181 h182 h183 h184 h185 h186 h187 h188 h189 h190 h191 h192 h193 h194 h195 h196 h197 h198 h199 h200
    rw [undef_fold]
    have hb := from_drew hS
    replace hM := hM.later hb
    clear hS hb hD hXb hYb hrx hry HTx HTy
    have qD := hM.hD.at
    unfold confBox at qD
    have l0 : (0 : Int) ≤ (tx.length : Int) - 1 := by omega
    have l1 : (tx.length : Int) - 1 ≤ (tx.length : Int) := by omega
    have l2 : ((tx.length : Int) - 1).toNat = tx.length - 1 := by omega
    go_upto_region 15 with fail
    have hAb : Blk ((w7.alloc (.cells #[.string ⟨#[]⟩, .string ⟨#[]⟩, .string ⟨#[]⟩, .int .i64 0] 45)).alloc (.cells #[.string ⟨#[]⟩, .string ⟨#[]⟩, .string ⟨#[]⟩, .int .i64 0] 45)) w7.heap.size 45 #[.string ⟨#[]⟩, .string ⟨#[]⟩, .string ⟨#[]⟩, .int .i64 0] := (Blk.new w7 _ _).alloc _
    have hBb : Blk ((w7.alloc (.cells #[.string ⟨#[]⟩, .string ⟨#[]⟩, .string ⟨#[]⟩, .int .i64 0] 45)).alloc (.cells #[.string ⟨#[]⟩, .string ⟨#[]⟩, .string ⟨#[]⟩, .int .i64 0] 45)) (w7.heap.size + 1) 45 #[.string ⟨#[]⟩, .string ⟨#[]⟩, .string ⟨#[]⟩, .int .i64 0] := Blk.newAt _ _ (by simp)
    have hb : Below w7.heap.size w7 ((w7.alloc (.cells #[.string ⟨#[]⟩, .string ⟨#[]⟩, .string ⟨#[]⟩, .int .i64 0] 45)).alloc (.cells #[.string ⟨#[]⟩, .string ⟨#[]⟩, .string ⟨#[]⟩, .int .i64 0] 45)) := (alloc_below w7 _).alloc (by simp) _
    have hws := hM.hB.size
    have hdl := hM.hD.lt
    have hxl := hM.hX.lt
    have hdn2 := hM.hrd.ltR
    have hxn := hM.hrx.ltT
    have hB := hM.hB.trans (hb.mono hM.hB.size)
    have hD := hM.hD.later hb
    have hrd := hM.hrd.later hb
    have hX := hM.hX.later hb
    have hrx := hM.hrx.later hb
    clear hb hM qD l0 l1 l2
    generalize (w7.alloc (.cells #[.string ⟨#[]⟩, .string ⟨#[]⟩, .string ⟨#[]⟩, .int .i64 0] 45)).alloc (.cells #[.string ⟨#[]⟩, .string ⟨#[]⟩, .string ⟨#[]⟩, .int .i64 0] 45) = w8 at *
    generalize w7.heap.size = ab at *
    have lq : (tx.take (tx.length - 1)).length ≤ 1048576 := by rw [List.length_take]; omega
    generalize tx.take (tx.length - 1) = q at *
    go_wp2_with fail
    refine (within10_any wh 10 _ (by omega) (by omega)).mono ?_
    rintro e wl ⟨rfl, rfl⟩
    have z0 := Int.emod_nonneg wh (show (10 : Int) ≠ 0 by omega)
    have z1 := Int.emod_lt_of_pos wh (show (0 : Int) < 10 by omega)
    generalize wh % 10 = z at *
    have l0 : ([] : List UInt8).length ≤ 1048576 := by decide
    have HSm := Lib.hid (fun W (aa : Option Addr) (ac : Nat) (h1 : RowT W aa X1.E) (h2 : RowT W a17 X1.E) => rSame5_any X1 X1 aa a17 ac c17 W h1 h2)
    have fA := hAb.frozen
    have qA := hAb.at
    have fB := hBb.frozen
    have qB := hBb.at
    have qD := hD.at
    unfold confBox at qD
    rcases HZ.out with rfl | rfl | rfl
    · have HP0 := Lib.hid (fun (W : World) (hb : Bnds W) (hr : Row W da d.P) => show Calls Tryd.prog 21 #[.agg #[.int .i64 d.N, .int .i64 d.Pi, .int .i64 d.E, .int .i64 d.G, .int .i64 d.F, .slice da d.P.length dc], .int .i64 r, .int .i64 X1.S, .agg #[.string ⟨ty.toArray⟩, .string ⟨#[]⟩, .string ⟨ty.toArray⟩, .int .i64 1], .agg #[.string ⟨#[]⟩, .string ⟨#[]⟩, .string ⟨tx.toArray⟩, .int .i64 (d.N - 1)]] W (RightRet (X1, true) W) from by
        have ht : takeA d r X1.S ⟨ty, [], ty, 1⟩ ⟨[], [], tx, d.N - 1⟩ = (X1, true) := (HT10.out 5 (by decide)).trans (by simp [ruleP])
        have h := aPick_any d da dc r X1.S ⟨ty, [], ty, 1⟩ ⟨[], [], tx, d.N - 1⟩ W hb hok hr (by omega) (by omega) ly lx ly l0
        rw [ht] at h
        exact h)
      go_upto_region 41 with fail
      clear fA qA fB qB qD
      have e1 : Blk (w8.set4 ab (.string ⟨ty.toArray⟩) (.string ⟨#[]⟩) (.string ⟨ty.toArray⟩) (.int .i64 1)) ab 45 #[.string ⟨ty.toArray⟩, .string ⟨#[]⟩, .string ⟨ty.toArray⟩, .int .i64 1] := blk_set4 hAb _ _ _ _
      have e2 := blk_far4 hBb (show ab + 1 ≠ ab by omega) (.string ⟨ty.toArray⟩) (.string ⟨#[]⟩) (.string ⟨ty.toArray⟩) (.int .i64 1)
      have e3 := blk_set4 e2 (.string ⟨#[]⟩) (.string ⟨#[]⟩) (.string ⟨tx.toArray⟩) (.int .i64 (d.N - 1))
      have e4 := blk_far4 e1 (show ab ≠ ab + 1 by omega) (.string ⟨#[]⟩) (.string ⟨#[]⟩) (.string ⟨tx.toArray⟩) (.int .i64 (d.N - 1))
      have e5 := blk_far4 (blk_far4 hD (show db ≠ ab by omega) (.string ⟨ty.toArray⟩) (.string ⟨#[]⟩) (.string ⟨ty.toArray⟩) (.int .i64 1)) (show db ≠ ab + 1 by omega) (.string ⟨#[]⟩) (.string ⟨#[]⟩) (.string ⟨tx.toArray⟩) (.int .i64 (d.N - 1))
      have e6 := blk_far4 (blk_far4 hX (show b17 ≠ ab by omega) (.string ⟨ty.toArray⟩) (.string ⟨#[]⟩) (.string ⟨ty.toArray⟩) (.int .i64 1)) (show b17 ≠ ab + 1 by omega) (.string ⟨#[]⟩) (.string ⟨#[]⟩) (.string ⟨tx.toArray⟩) (.int .i64 (d.N - 1))
      have e7 := row_far4 (row_far4 hrd ab (hdn2.imp id fun q y e => by have := q y e; omega) (.string ⟨ty.toArray⟩) (.string ⟨#[]⟩) (.string ⟨ty.toArray⟩) (.int .i64 1)) (ab + 1) (hdn2.imp id fun q y e => by have := q y e; omega) (.string ⟨#[]⟩) (.string ⟨#[]⟩) (.string ⟨tx.toArray⟩) (.int .i64 (d.N - 1))
      have e8 := below_set4 (below_set4 hB hws (.string ⟨ty.toArray⟩) (.string ⟨#[]⟩) (.string ⟨ty.toArray⟩) (.int .i64 1)) (show w.heap.size ≤ ab + 1 by omega) (.string ⟨#[]⟩) (.string ⟨#[]⟩) (.string ⟨tx.toArray⟩) (.int .i64 (d.N - 1))
      have e9 := rowT_far4 (rowT_far4 hrx ab (hxn.imp id fun q y e => by have := q y e; omega) (.string ⟨ty.toArray⟩) (.string ⟨#[]⟩) (.string ⟨ty.toArray⟩) (.int .i64 1)) (ab + 1) (hxn.imp id fun q y e => by have := q y e; omega) (.string ⟨#[]⟩) (.string ⟨#[]⟩) (.string ⟨tx.toArray⟩) (.int .i64 (d.N - 1))
      clear hAb hBb hD hX hrd hB hrx e1 e2
      unfold World.set4 at e3 e4 e5 e6 e7 e8 e9
      generalize (((((((w8.setCell ⟨ab, 0, none⟩ (.string ⟨ty.toArray⟩)).setCell ⟨ab, 1, none⟩ (.string ⟨#[]⟩)).setCell ⟨ab, 2, none⟩ (.string ⟨ty.toArray⟩)).setCell ⟨ab, 3, none⟩ (.int .i64 1)).setCell ⟨ab + 1, 0, none⟩ (.string ⟨#[]⟩)).setCell ⟨ab + 1, 1, none⟩ (.string ⟨#[]⟩)).setCell ⟨ab + 1, 2, none⟩ (.string ⟨tx.toArray⟩)).setCell ⟨ab + 1, 3, none⟩ (.int .i64 (d.N - 1)) = w9 at *
      have hB := e8
      have hD := e5
      have hrd := e7
      have hX := e6
      have hAb := e4
      have hBb := e3
      have hrx := e9
      clear e3 e4 e5 e6 e7 e8 e9
      have qD := hD.at
      unfold confBox at qD
      have qX := hX.at
      unfold frBox at qX
      have qA := hAb.at
      have qB := hBb.at
      go_wp2_with fail
      refine (HP0.out _ (hbd.later hB) hrd).mono ?_
      rintro e w10 ⟨pa, pc, rfl, hrp, -, hb⟩
      replace hB := hB.trans (hb.mono hB.size)
      replace hX := hX.later hb
      replace hrx := hrx.later hb
      clear hb qD qX qA qB
      go_upto_region 42 with fail
      have hb := alloc_below w10 (.cells #[.int .i64 X1.K, .int .i64 X1.R, .int .i64 X1.S, .int .i64 X1.P.K, .int .i64 X1.P.V, .slice pa X1.E.length pc] 29)
      have hE : Blk (w10.alloc (.cells #[.int .i64 X1.K, .int .i64 X1.R, .int .i64 X1.S, .int .i64 X1.P.K, .int .i64 X1.P.V, .slice pa X1.E.length pc] 29)) w10.heap.size 29 (frBox X1 pa pc) := Blk.new w10 _ _
      replace hB := hB.trans (hb.mono hB.size)
      replace hX := hX.later hb
      replace hrx := hrx.later hb
      replace hrp := hrp.later hb
      clear hb
      generalize w10.alloc (.cells #[.int .i64 X1.K, .int .i64 X1.R, .int .i64 X1.S, .int .i64 X1.P.K, .int .i64 X1.P.V, .slice pa X1.E.length pc] 29) = w11 at *
      generalize w10.heap.size = eb at *
      have qE := hE.at
      unfold frBox at qE
      have qX := hX.at
      unfold frBox at qX
      go_upto_region 44 with fail
      go_region_with ((go_at_call 20; refine (HSm.out _ pa pc hrp.drew1 hrx.drew1).mono ?_; rintro e w12 ⟨rfl, hb⟩; have hB9 := hB.trans ((from_drew hb).mono hB.size)))
      all_goals go_wp2
      all_goals go_ret
      all_goals exact ⟨by first | rfl | simp, hB9⟩
    · have HP0 := Lib.hid (fun (W : World) (hb : Bnds W) (hr : Row W da d.P) => show Calls Tryd.prog 21 #[.agg #[.int .i64 d.N, .int .i64 d.Pi, .int .i64 d.E, .int .i64 d.G, .int .i64 d.F, .slice da d.P.length dc], .int .i64 r, .int .i64 X1.S, .agg #[.string ⟨#[]⟩, .string ⟨#[]⟩, .string ⟨#[]⟩, .int .i64 (d.N - 1)], .agg #[.string ⟨tx.toArray⟩, .string ⟨#[]⟩, .string ⟨tx.toArray⟩, .int .i64 1]] W (RightRet (X1, true) W) from by
        have ht : takeA d r X1.S ⟨[], [], [], d.N - 1⟩ ⟨tx, [], tx, 1⟩ = (X1, true) := (HT10.out 6 (by decide)).trans (by simp [ruleP])
        have h := aPick_any d da dc r X1.S ⟨[], [], [], d.N - 1⟩ ⟨tx, [], tx, 1⟩ W hb hok hr (by omega) (by omega) l0 lx l0 lx
        rw [ht] at h
        exact h)
      go_upto_region 41 with fail
      clear fA qA fB qB qD
      have e1 : Blk (w8.set4 ab (.string ⟨#[]⟩) (.string ⟨#[]⟩) (.string ⟨#[]⟩) (.int .i64 (d.N - 1))) ab 45 #[.string ⟨#[]⟩, .string ⟨#[]⟩, .string ⟨#[]⟩, .int .i64 (d.N - 1)] := blk_set4 hAb _ _ _ _
      have e2 := blk_far4 hBb (show ab + 1 ≠ ab by omega) (.string ⟨#[]⟩) (.string ⟨#[]⟩) (.string ⟨#[]⟩) (.int .i64 (d.N - 1))
      have e3 := blk_set4 e2 (.string ⟨tx.toArray⟩) (.string ⟨#[]⟩) (.string ⟨tx.toArray⟩) (.int .i64 1)
      have e4 := blk_far4 e1 (show ab ≠ ab + 1 by omega) (.string ⟨tx.toArray⟩) (.string ⟨#[]⟩) (.string ⟨tx.toArray⟩) (.int .i64 1)
      have e5 := blk_far4 (blk_far4 hD (show db ≠ ab by omega) (.string ⟨#[]⟩) (.string ⟨#[]⟩) (.string ⟨#[]⟩) (.int .i64 (d.N - 1))) (show db ≠ ab + 1 by omega) (.string ⟨tx.toArray⟩) (.string ⟨#[]⟩) (.string ⟨tx.toArray⟩) (.int .i64 1)
      have e6 := blk_far4 (blk_far4 hX (show b17 ≠ ab by omega) (.string ⟨#[]⟩) (.string ⟨#[]⟩) (.string ⟨#[]⟩) (.int .i64 (d.N - 1))) (show b17 ≠ ab + 1 by omega) (.string ⟨tx.toArray⟩) (.string ⟨#[]⟩) (.string ⟨tx.toArray⟩) (.int .i64 1)
      have e7 := row_far4 (row_far4 hrd ab (hdn2.imp id fun q y e => by have := q y e; omega) (.string ⟨#[]⟩) (.string ⟨#[]⟩) (.string ⟨#[]⟩) (.int .i64 (d.N - 1))) (ab + 1) (hdn2.imp id fun q y e => by have := q y e; omega) (.string ⟨tx.toArray⟩) (.string ⟨#[]⟩) (.string ⟨tx.toArray⟩) (.int .i64 1)
      have e8 := below_set4 (below_set4 hB hws (.string ⟨#[]⟩) (.string ⟨#[]⟩) (.string ⟨#[]⟩) (.int .i64 (d.N - 1))) (show w.heap.size ≤ ab + 1 by omega) (.string ⟨tx.toArray⟩) (.string ⟨#[]⟩) (.string ⟨tx.toArray⟩) (.int .i64 1)
      have e9 := rowT_far4 (rowT_far4 hrx ab (hxn.imp id fun q y e => by have := q y e; omega) (.string ⟨#[]⟩) (.string ⟨#[]⟩) (.string ⟨#[]⟩) (.int .i64 (d.N - 1))) (ab + 1) (hxn.imp id fun q y e => by have := q y e; omega) (.string ⟨tx.toArray⟩) (.string ⟨#[]⟩) (.string ⟨tx.toArray⟩) (.int .i64 1)
      clear hAb hBb hD hX hrd hB hrx e1 e2
      unfold World.set4 at e3 e4 e5 e6 e7 e8 e9
      generalize (((((((w8.setCell ⟨ab, 0, none⟩ (.string ⟨#[]⟩)).setCell ⟨ab, 1, none⟩ (.string ⟨#[]⟩)).setCell ⟨ab, 2, none⟩ (.string ⟨#[]⟩)).setCell ⟨ab, 3, none⟩ (.int .i64 (d.N - 1))).setCell ⟨ab + 1, 0, none⟩ (.string ⟨tx.toArray⟩)).setCell ⟨ab + 1, 1, none⟩ (.string ⟨#[]⟩)).setCell ⟨ab + 1, 2, none⟩ (.string ⟨tx.toArray⟩)).setCell ⟨ab + 1, 3, none⟩ (.int .i64 1) = w9 at *
      have hB := e8
      have hD := e5
      have hrd := e7
      have hX := e6
      have hAb := e4
      have hBb := e3
      have hrx := e9
      clear e3 e4 e5 e6 e7 e8 e9
      have qD := hD.at
      unfold confBox at qD
      have qX := hX.at
      unfold frBox at qX
      have qA := hAb.at
      have qB := hBb.at
      go_wp2_with fail
      refine (HP0.out _ (hbd.later hB) hrd).mono ?_
      rintro e w10 ⟨pa, pc, rfl, hrp, -, hb⟩
      replace hB := hB.trans (hb.mono hB.size)
      replace hX := hX.later hb
      replace hrx := hrx.later hb
      clear hb qD qX qA qB
      go_upto_region 42 with fail
      have hb := alloc_below w10 (.cells #[.int .i64 X1.K, .int .i64 X1.R, .int .i64 X1.S, .int .i64 X1.P.K, .int .i64 X1.P.V, .slice pa X1.E.length pc] 29)
      have hE : Blk (w10.alloc (.cells #[.int .i64 X1.K, .int .i64 X1.R, .int .i64 X1.S, .int .i64 X1.P.K, .int .i64 X1.P.V, .slice pa X1.E.length pc] 29)) w10.heap.size 29 (frBox X1 pa pc) := Blk.new w10 _ _
      replace hB := hB.trans (hb.mono hB.size)
      replace hX := hX.later hb
      replace hrx := hrx.later hb
      replace hrp := hrp.later hb
      clear hb
      generalize w10.alloc (.cells #[.int .i64 X1.K, .int .i64 X1.R, .int .i64 X1.S, .int .i64 X1.P.K, .int .i64 X1.P.V, .slice pa X1.E.length pc] 29) = w11 at *
      generalize w10.heap.size = eb at *
      have qE := hE.at
      unfold frBox at qE
      have qX := hX.at
      unfold frBox at qX
      go_upto_region 44 with fail
      go_region_with ((go_at_call 20; refine (HSm.out _ pa pc hrp.drew1 hrx.drew1).mono ?_; rintro e w12 ⟨rfl, hb⟩; have hB9 := hB.trans ((from_drew hb).mono hB.size)))
      all_goals go_wp2
      all_goals go_ret
      all_goals exact ⟨by first | rfl | simp, hB9⟩
    · have HP0 := Lib.hid (fun (W : World) (hb : Bnds W) (hr : Row W da d.P) => show Calls Tryd.prog 21 #[.agg #[.int .i64 d.N, .int .i64 d.Pi, .int .i64 d.E, .int .i64 d.G, .int .i64 d.F, .slice da d.P.length dc], .int .i64 r, .int .i64 X1.S, .agg #[.string ⟨tx.toArray⟩, .string ⟨tx.toArray⟩, .string ⟨#[]⟩, .int .i64 2], .agg #[.string ⟨tx.toArray⟩, .string ⟨tx.toArray⟩, .string ⟨q.toArray⟩, .int .i64 (d.N - 1 - 1)]] W (RightRet (zeroF, false) W) from by
        have ht : takeA d r X1.S ⟨tx, tx, [], 2⟩ ⟨tx, tx, q, d.N - 1 - 1⟩ = (zeroF, false) := by
          rw [show d.N - 1 - 1 = d.N - 2 by omega]
          exact (HT10.out 7 (by decide)).trans (by simp [ruleP])
        have h := aPick_any d da dc r X1.S ⟨tx, tx, [], 2⟩ ⟨tx, tx, q, d.N - 1 - 1⟩ W hb hok hr (by omega) (by omega) l0 lq lx lx
        rw [ht] at h
        exact h)
      go_upto_region 41 with fail
      clear fA qA fB qB qD
      have e1 : Blk (w8.set4 ab (.string ⟨tx.toArray⟩) (.string ⟨tx.toArray⟩) (.string ⟨#[]⟩) (.int .i64 2)) ab 45 #[.string ⟨tx.toArray⟩, .string ⟨tx.toArray⟩, .string ⟨#[]⟩, .int .i64 2] := blk_set4 hAb _ _ _ _
      have e2 := blk_far4 hBb (show ab + 1 ≠ ab by omega) (.string ⟨tx.toArray⟩) (.string ⟨tx.toArray⟩) (.string ⟨#[]⟩) (.int .i64 2)
      have e3 := blk_set4 e2 (.string ⟨tx.toArray⟩) (.string ⟨tx.toArray⟩) (.string ⟨q.toArray⟩) (.int .i64 (d.N - 1 - 1))
      have e4 := blk_far4 e1 (show ab ≠ ab + 1 by omega) (.string ⟨tx.toArray⟩) (.string ⟨tx.toArray⟩) (.string ⟨q.toArray⟩) (.int .i64 (d.N - 1 - 1))
      have e5 := blk_far4 (blk_far4 hD (show db ≠ ab by omega) (.string ⟨tx.toArray⟩) (.string ⟨tx.toArray⟩) (.string ⟨#[]⟩) (.int .i64 2)) (show db ≠ ab + 1 by omega) (.string ⟨tx.toArray⟩) (.string ⟨tx.toArray⟩) (.string ⟨q.toArray⟩) (.int .i64 (d.N - 1 - 1))
      have e6 := blk_far4 (blk_far4 hX (show b17 ≠ ab by omega) (.string ⟨tx.toArray⟩) (.string ⟨tx.toArray⟩) (.string ⟨#[]⟩) (.int .i64 2)) (show b17 ≠ ab + 1 by omega) (.string ⟨tx.toArray⟩) (.string ⟨tx.toArray⟩) (.string ⟨q.toArray⟩) (.int .i64 (d.N - 1 - 1))
      have e7 := row_far4 (row_far4 hrd ab (hdn2.imp id fun q y e => by have := q y e; omega) (.string ⟨tx.toArray⟩) (.string ⟨tx.toArray⟩) (.string ⟨#[]⟩) (.int .i64 2)) (ab + 1) (hdn2.imp id fun q y e => by have := q y e; omega) (.string ⟨tx.toArray⟩) (.string ⟨tx.toArray⟩) (.string ⟨q.toArray⟩) (.int .i64 (d.N - 1 - 1))
      have e8 := below_set4 (below_set4 hB hws (.string ⟨tx.toArray⟩) (.string ⟨tx.toArray⟩) (.string ⟨#[]⟩) (.int .i64 2)) (show w.heap.size ≤ ab + 1 by omega) (.string ⟨tx.toArray⟩) (.string ⟨tx.toArray⟩) (.string ⟨q.toArray⟩) (.int .i64 (d.N - 1 - 1))
      have e9 := rowT_far4 (rowT_far4 hrx ab (hxn.imp id fun q y e => by have := q y e; omega) (.string ⟨tx.toArray⟩) (.string ⟨tx.toArray⟩) (.string ⟨#[]⟩) (.int .i64 2)) (ab + 1) (hxn.imp id fun q y e => by have := q y e; omega) (.string ⟨tx.toArray⟩) (.string ⟨tx.toArray⟩) (.string ⟨q.toArray⟩) (.int .i64 (d.N - 1 - 1))
      clear hAb hBb hD hX hrd hB hrx e1 e2
      unfold World.set4 at e3 e4 e5 e6 e7 e8 e9
      generalize (((((((w8.setCell ⟨ab, 0, none⟩ (.string ⟨tx.toArray⟩)).setCell ⟨ab, 1, none⟩ (.string ⟨tx.toArray⟩)).setCell ⟨ab, 2, none⟩ (.string ⟨#[]⟩)).setCell ⟨ab, 3, none⟩ (.int .i64 2)).setCell ⟨ab + 1, 0, none⟩ (.string ⟨tx.toArray⟩)).setCell ⟨ab + 1, 1, none⟩ (.string ⟨tx.toArray⟩)).setCell ⟨ab + 1, 2, none⟩ (.string ⟨q.toArray⟩)).setCell ⟨ab + 1, 3, none⟩ (.int .i64 (d.N - 1 - 1)) = w9 at *
      have hB := e8
      have hD := e5
      have hrd := e7
      have hX := e6
      have hAb := e4
      have hBb := e3
      have hrx := e9
      clear e3 e4 e5 e6 e7 e8 e9
      have qD := hD.at
      unfold confBox at qD
      have qX := hX.at
      unfold frBox at qX
      have qA := hAb.at
      have qB := hBb.at
      go_wp2_with fail
      refine (HP0.out _ (hbd.later hB) hrd).mono ?_
      rintro e w10 ⟨pa, pc, rfl, hrp, -, hb⟩
      replace hB := hB.trans (hb.mono hB.size)
      replace hX := hX.later hb
      replace hrx := hrx.later hb
      clear hb qD qX qA qB
      go_upto_region 42 with fail
      have hb := alloc_below w10 (.cells #[.int .i64 zeroF.K, .int .i64 zeroF.R, .int .i64 zeroF.S, .int .i64 zeroF.P.K, .int .i64 zeroF.P.V, .slice pa zeroF.E.length pc] 29)
      have hE : Blk (w10.alloc (.cells #[.int .i64 zeroF.K, .int .i64 zeroF.R, .int .i64 zeroF.S, .int .i64 zeroF.P.K, .int .i64 zeroF.P.V, .slice pa zeroF.E.length pc] 29)) w10.heap.size 29 (frBox zeroF pa pc) := Blk.new w10 _ _
      replace hB := hB.trans (hb.mono hB.size)
      replace hX := hX.later hb
      replace hrx := hrx.later hb
      replace hrp := hrp.later hb
      clear hb
      generalize w10.alloc (.cells #[.int .i64 zeroF.K, .int .i64 zeroF.R, .int .i64 zeroF.S, .int .i64 zeroF.P.K, .int .i64 zeroF.P.V, .slice pa zeroF.E.length pc] 29) = w11 at *
      generalize w10.heap.size = eb at *
      have qE : ∀ i, w11.cell? ⟨eb, i, none⟩ = (#[.int .i64 0, .int .i64 0, .int .i64 0, .int .i64 0, .int .i64 0, .slice pa 0 pc] : Array Value)[i]? := hE.at
      go_wp2
      go_ret
      exact ⟨rfl, hB⟩

end Go.Proofs.YtkflijbhlibadabDoor
/-
  ArbRules' walk: ways 8, 9.
-/
namespace Go.Proofs.YtkflijbhlibadabDoor
open Go.RowKit Plait
set_option maxRecDepth 100000
set_option linter.unusedVariables false
set_option linter.unusedSimpArgs false


set_option maxHeartbeats 16000000 in
theorem arbRules_wD (c : Cf) (a : Option Addr) (cap : Nat) (f : Fr) (fa : Option Addr) (fc : Nat) (g : Fr) (ga : Option Addr) (gc : Nat) (na : Option Addr) (ns : List Int) (nc : Nat) (ma : Option Addr) (ms : List Int) (mc : Nat) (wh rd : Int) (w : World) (hbd : Bnds w)
    (hrow : Row w a c.P) (iN : inI c.N) (iP : inI c.Pi) (iE : inI c.E) (iG : inI c.G) (iF : inI c.F) (hfE : RowT w fa f.E) (iK : inI f.K) (iR : inI f.R) (iS : inI f.S) (iQ : inI f.P.K) (iV : inI f.P.V) (hgE : RowT w ga g.E) (jK : inI g.K) (jR : inI g.R) (jS : inI g.S) (jQ : inI g.P.K) (jV : inI g.P.V)
    (hns : Row w na ns) (hms : Row w ma ms) (o1 : -9223372036854775808 ≤ wh) (o2 : wh ≤ 9223372036854775807) (r1 : -9223372036854775808 ≤ rd) (r2 : rd ≤ 9223372036854775807) (hz : wh % 10 = 8 ∨ wh % 10 = 9) :
    Calls Tryd.prog 5 #[.agg #[.int .i64 c.N, .int .i64 c.Pi, .int .i64 c.E, .int .i64 c.G, .int .i64 c.F, .slice a c.P.length cap], .agg #[.int .i64 f.K, .int .i64 f.R, .int .i64 f.S, .int .i64 f.P.K, .int .i64 f.P.V, .slice fa f.E.length fc], .agg #[.int .i64 g.K, .int .i64 g.R, .int .i64 g.S, .int .i64 g.P.K, .int .i64 g.P.V, .slice ga g.E.length gc], .slice na ns.length nc, .slice ma ms.length mc, .int .i64 wh, .int .i64 rd] w fun e w' => e = .returned (.bool true) ∧ Below w.heap.size w w' := by
  have HZ := Lib.hid hz
  clear hz
  have hB : Below w.heap.size w (((w.alloc (.cells #[.int .i64 c.N, .int .i64 c.Pi, .int .i64 c.E, .int .i64 c.G, .int .i64 c.F, .slice a c.P.length cap] 24)).alloc (.cells #[.int .i64 f.K, .int .i64 f.R, .int .i64 f.S, .int .i64 f.P.K, .int .i64 f.P.V, .slice fa f.E.length fc] 29)).alloc (.cells #[.int .i64 g.K, .int .i64 g.R, .int .i64 g.S, .int .i64 g.P.K, .int .i64 g.P.V, .slice ga g.E.length gc] 29)) := ((alloc_below w _).alloc (by simp) _).alloc (by simp; omega) _
  have hC : Blk (((w.alloc (.cells #[.int .i64 c.N, .int .i64 c.Pi, .int .i64 c.E, .int .i64 c.G, .int .i64 c.F, .slice a c.P.length cap] 24)).alloc (.cells #[.int .i64 f.K, .int .i64 f.R, .int .i64 f.S, .int .i64 f.P.K, .int .i64 f.P.V, .slice fa f.E.length fc] 29)).alloc (.cells #[.int .i64 g.K, .int .i64 g.R, .int .i64 g.S, .int .i64 g.P.K, .int .i64 g.P.V, .slice ga g.E.length gc] 29)) w.heap.size 24 (confBox c a cap) := ((Blk.new w _ _).alloc _).alloc _
  have hF : Blk (((w.alloc (.cells #[.int .i64 c.N, .int .i64 c.Pi, .int .i64 c.E, .int .i64 c.G, .int .i64 c.F, .slice a c.P.length cap] 24)).alloc (.cells #[.int .i64 f.K, .int .i64 f.R, .int .i64 f.S, .int .i64 f.P.K, .int .i64 f.P.V, .slice fa f.E.length fc] 29)).alloc (.cells #[.int .i64 g.K, .int .i64 g.R, .int .i64 g.S, .int .i64 g.P.K, .int .i64 g.P.V, .slice ga g.E.length gc] 29)) (w.heap.size + 1) 29 (frBox f fa fc) := (Blk.newAt _ _ (by simp)).alloc _
  have hG : Blk (((w.alloc (.cells #[.int .i64 c.N, .int .i64 c.Pi, .int .i64 c.E, .int .i64 c.G, .int .i64 c.F, .slice a c.P.length cap] 24)).alloc (.cells #[.int .i64 f.K, .int .i64 f.R, .int .i64 f.S, .int .i64 f.P.K, .int .i64 f.P.V, .slice fa f.E.length fc] 29)).alloc (.cells #[.int .i64 g.K, .int .i64 g.R, .int .i64 g.S, .int .i64 g.P.K, .int .i64 g.P.V, .slice ga g.E.length gc] 29)) (w.heap.size + 1 + 1) 29 (frBox g ga gc) := Blk.newAt _ _ (by simp)
  go_enter Tryd.func5, Tryd.ntmps5
  go_upto_region 1 with fail
  generalize (((w.alloc (.cells #[.int .i64 c.N, .int .i64 c.Pi, .int .i64 c.E, .int .i64 c.G, .int .i64 c.F, .slice a c.P.length cap] 24)).alloc (.cells #[.int .i64 f.K, .int .i64 f.R, .int .i64 f.S, .int .i64 f.P.K, .int .i64 f.P.V, .slice fa f.E.length fc] 29)).alloc (.cells #[.int .i64 g.K, .int .i64 g.R, .int .i64 g.S, .int .i64 g.P.K, .int .i64 g.P.V, .slice ga g.E.length gc] 29)) = w1 at *
  go_wp2_with fail
  refine (known10_any _ (hbd.later hB)).mono ?_
  rintro e w2 ⟨rfl, hb⟩
  replace hB := hB.trans (hb.mono hB.size)
  replace hC := hC.later hb
  replace hF := hF.later hb
  replace hG := hG.later hb
  clear hb
  have qC := hC.at
  unfold confBox at qC
  go_wp2_with fail
  refine (make_any c a cap _ (hrow.later hB)).mono ?_
  rintro e wm ⟨da, dc, rfl, hrd, hfd, hb⟩
  have hwl := hG.lt
  replace hB := hB.trans (hb.mono hB.size)
  replace hF := hF.later hb
  replace hG := hG.later hb
  replace hfd : ∀ x, da = some x → w.heap.size + 1 + 1 < x.block := fun x hx => by have := hfd x hx; omega
  clear hb qC hC
  have hok := makeC_ok c
  generalize makeC c = d at *
  have hdl := hG.lt
  have hdn := hrd.ltR
  have hD : Blk (wm.alloc (.cells #[.int .i64 d.N, .int .i64 d.Pi, .int .i64 d.E, .int .i64 d.G, .int .i64 d.F, .slice da d.P.length dc] 24)) wm.heap.size 24 (confBox d da dc) := Blk.new wm _ _
  replace hB := hB.alloc hB.size (.cells #[.int .i64 d.N, .int .i64 d.Pi, .int .i64 d.E, .int .i64 d.G, .int .i64 d.F, .slice da d.P.length dc] 24)
  replace hF := hF.alloc (.cells #[.int .i64 d.N, .int .i64 d.Pi, .int .i64 d.E, .int .i64 d.G, .int .i64 d.F, .slice da d.P.length dc] 24)
  replace hG := hG.alloc (.cells #[.int .i64 d.N, .int .i64 d.Pi, .int .i64 d.E, .int .i64 d.G, .int .i64 d.F, .slice da d.P.length dc] 24)
  replace hrd := hrd.alloc (.cells #[.int .i64 d.N, .int .i64 d.Pi, .int .i64 d.E, .int .i64 d.G, .int .i64 d.F, .slice da d.P.length dc] 24)
  go_upto_region 4 with fail
  generalize wm.alloc (.cells #[.int .i64 d.N, .int .i64 d.Pi, .int .i64 d.E, .int .i64 d.G, .int .i64 d.F, .slice da d.P.length dc] 24) = wn at *
  generalize wm.heap.size = db at *
  go_wp2_with fail
  refine (within10_any rd 100 _ (by omega) (by omega)).mono ?_
  rintro e wl ⟨rfl, rfl⟩
  have x0 := Int.emod_nonneg rd (show (100 : Int) ≠ 0 by omega)
  have x1 := Int.emod_lt_of_pos rd (show (0 : Int) < 100 by omega)
  generalize rd % 100 = r at *
  have fF := hF.frozen
  have qF := hF.at
  unfold frBox at qF
  have fG := hG.frozen
  have qG := hG.at
  unfold frBox at qG
  go_upto_region 6 with fail
  clear fF qF fG qG
  obtain ⟨f1, hf1⟩ : ∃ f1 : Fr, f1 = { f with K := 2 } := ⟨_, rfl⟩
  obtain ⟨g1, hg1⟩ : ∃ g1 : Fr, g1 = { g with K := 2 } := ⟨_, rfl⟩
  have hF1 : Blk ((wn.setCell ⟨w.heap.size + 1, 0, none⟩ (.int .i64 2)).setCell ⟨w.heap.size + 1 + 1, 0, none⟩ (.int .i64 2)) (w.heap.size + 1) 29 (frBox f1 fa fc) := by
    subst hf1
    exact (hF.set 0 _).far (p := ⟨w.heap.size + 1 + 1, 0, none⟩) (by show w.heap.size + 1 ≠ w.heap.size + 1 + 1; omega) _
  have hG1 : Blk ((wn.setCell ⟨w.heap.size + 1, 0, none⟩ (.int .i64 2)).setCell ⟨w.heap.size + 1 + 1, 0, none⟩ (.int .i64 2)) (w.heap.size + 1 + 1) 29 (frBox g1 ga gc) := by
    subst hg1
    exact (hG.far (p := ⟨w.heap.size + 1, 0, none⟩) (by show w.heap.size + 1 + 1 ≠ w.heap.size + 1; omega) _).set 0 _
  replace hD := (hD.far (p := ⟨w.heap.size + 1, 0, none⟩) (by show db ≠ w.heap.size + 1; omega) (.int .i64 2)).far (p := ⟨w.heap.size + 1 + 1, 0, none⟩) (by show db ≠ w.heap.size + 1 + 1; omega) (.int .i64 2)
  replace hrd := (hrd.farR (w.heap.size + 1) 0 (.int .i64 2) (.inr fun x hx => by have := hfd x hx; omega)).farR (w.heap.size + 1 + 1) 0 (.int .i64 2) (.inr fun x hx => by have := hfd x hx; omega)
  replace hB := (hB.setCell (p := ⟨w.heap.size + 1, 0, none⟩) (by show w.heap.size ≤ w.heap.size + 1; omega) (.int .i64 2)).setCell (p := ⟨w.heap.size + 1 + 1, 0, none⟩) (by show w.heap.size ≤ w.heap.size + 1 + 1; omega) (.int .i64 2)
  have jf1 : inI f1.K := by subst hf1; exact ⟨by show (_ : Int) ≤ 2; omega, by show (2 : Int) ≤ _; omega⟩
  have jg1 : inI g1.K := by subst hg1; exact ⟨by show (_ : Int) ≤ 2; omega, by show (2 : Int) ≤ _; omega⟩
  have iR1 : inI f1.R := by subst hf1; exact iR
  have iV1 : inI f1.P.V := by subst hf1; exact iV
  have jR1 : inI g1.R := by subst hg1; exact jR
  have jV1 : inI g1.P.V := by subst hg1; exact jV
  have iS1 : inI f1.S := by subst hf1; exact iS
  clear hF hG hf1 hg1
  generalize (wn.setCell ⟨w.heap.size + 1, 0, none⟩ (.int .i64 2)).setCell ⟨w.heap.size + 1 + 1, 0, none⟩ (.int .i64 2) = wn at *
  have fF := hF1.frozen
  have qF := hF1.at
  unfold frBox at qF
  have fG := hG1.frozen
  have qG := hG1.at
  unfold frBox at qG
  go_wp2_with fail
  refine (within10_any f1.S 6 _ (by unfold inI at iS1; omega) (by omega)).mono ?_
  rintro e wl ⟨rfl, rfl⟩
  have y0 := Int.emod_nonneg f1.S (show (6 : Int) ≠ 0 by omega)
  have y1 := Int.emod_lt_of_pos f1.S (show (0 : Int) < 6 by omega)
  generalize f1.S % 6 = s6 at *
  go_upto_region 8 with fail
  clear fF qF fG qG iS1
  have hF := hF1
  have hG := hG1
  clear hF1 hG1
  obtain ⟨f2, hf2⟩ : ∃ f2 : Fr, f2 = { f1 with S := s6 } := ⟨_, rfl⟩
  obtain ⟨g2, hg2⟩ : ∃ g2 : Fr, g2 = { g1 with S := s6 } := ⟨_, rfl⟩
  have hF2 : Blk ((wn.setCell ⟨w.heap.size + 1, 2, none⟩ (.int .i64 s6)).setCell ⟨w.heap.size + 1 + 1, 2, none⟩ (.int .i64 s6)) (w.heap.size + 1) 29 (frBox f2 fa fc) := by
    subst hf2
    exact (hF.set 2 _).far (p := ⟨w.heap.size + 1 + 1, 2, none⟩) (by show w.heap.size + 1 ≠ w.heap.size + 1 + 1; omega) _
  have hG2 : Blk ((wn.setCell ⟨w.heap.size + 1, 2, none⟩ (.int .i64 s6)).setCell ⟨w.heap.size + 1 + 1, 2, none⟩ (.int .i64 s6)) (w.heap.size + 1 + 1) 29 (frBox g2 ga gc) := by
    subst hg2
    exact (hG.far (p := ⟨w.heap.size + 1, 2, none⟩) (by show w.heap.size + 1 + 1 ≠ w.heap.size + 1; omega) _).set 2 _
  replace hD := (hD.far (p := ⟨w.heap.size + 1, 2, none⟩) (by show db ≠ w.heap.size + 1; omega) (.int .i64 s6)).far (p := ⟨w.heap.size + 1 + 1, 2, none⟩) (by show db ≠ w.heap.size + 1 + 1; omega) (.int .i64 s6)
  replace hrd := (hrd.farR (w.heap.size + 1) 2 (.int .i64 s6) (.inr fun x hx => by have := hfd x hx; omega)).farR (w.heap.size + 1 + 1) 2 (.int .i64 s6) (.inr fun x hx => by have := hfd x hx; omega)
  replace hB := (hB.setCell (p := ⟨w.heap.size + 1, 2, none⟩) (by show w.heap.size ≤ w.heap.size + 1; omega) (.int .i64 s6)).setCell (p := ⟨w.heap.size + 1 + 1, 2, none⟩) (by show w.heap.size ≤ w.heap.size + 1 + 1; omega) (.int .i64 s6)
  have iS2 : inI f2.S := by subst hf2; exact ⟨by show _ ≤ s6; omega, by show s6 ≤ _; omega⟩
  have jS2 : inI g2.S := by subst hg2; exact ⟨by show _ ≤ s6; omega, by show s6 ≤ _; omega⟩
  have iK2 : inI f2.K := by subst hf2; exact jf1
  have iR2 : inI f2.R := by subst hf2; exact iR1
  have iV2 : inI f2.P.V := by subst hf2; exact iV1
  have jK2 : inI g2.K := by subst hg2; exact jg1
  have jR2 : inI g2.R := by subst hg2; exact jR1
  have jV2 : inI g2.P.V := by subst hg2; exact jV1
  have hf2x := hf2
  have hg2x := hg2
  clear hf2 hg2 hF hG
  generalize (wn.setCell ⟨w.heap.size + 1, 2, none⟩ (.int .i64 s6)).setCell ⟨w.heap.size + 1 + 1, 2, none⟩ (.int .i64 s6) = w4 at *
  have HM1 := Lib.hid (fun W (h : Row W na ns) => make5_any d da dc f2 fa fc na ns nc W hok h iK2 iR2 iS2 iV2)
  have HM2 := Lib.hid (fun W (h : Row W ma ms) => make5_any d da dc g2 ga gc ma ms mc W hok h jK2 jR2 jS2 jV2)
  have hokX := makeF_ok d f2 ns hok
  have hokY := makeF_ok d g2 ms hok
  have HSX := Lib.hid (show (makeF d f2 ns).S = s6 % slotsI d by rw [makeF_S]; subst hf2x; rfl)
  have HSY := Lib.hid (show (makeF d g2 ms).S = s6 % slotsI d by rw [makeF_S]; subst hg2x; rfl)
  clear hf2x hg2x
  generalize makeF d f2 ns = X0 at *
  generalize makeF d g2 ms = Y0 at *
  clear iS2 jS2 iK2 iR2 iV2 jK2 jR2 jV2
  refine region_slots [some 44, some 45, some 46, some 47, some 48, some 49, some 50, some 51, some 17, some 18, none, none] [none, none, none, none, none, none, none, none, none, none, some 8, some 9] 201 12 rfl (by kernel_rfl) (by kernel_rfl) rfl rfl ?_
  apply step_fix
  · intro a W Zs hS hFm hz hd
    have h15 := hFm.old 15 rfl
    conv at h15 => rhs; whnf
    replace h15 := ev_get hFm.size h15
    have hq := (hD.drew1.later hS).at
    unfold confBox at hq
    refine .inl ⟨wanted_none rfl _, fun K hK => ?_⟩
    have HK := Lib.hid hK
    clear hd hFm hK
    go_simp
    exact HK.out _ _ rfl (Below.refl _ _)
  simp only [List.nil_append, List.cons_append]
  apply step_fix
  · intro a W Zs hS hFm hz hd
    have h8 := hFm.old 8 rfl
    conv at h8 => rhs; whnf
    replace h8 := ev_get hFm.size h8
    have hq := (hF2.drew1.later hS).at
    unfold frBox at hq
    refine .inl ⟨wanted_none rfl _, fun K hK => ?_⟩
    have HK := Lib.hid hK
    clear hd hFm hK
    go_simp
    exact HK.out _ _ rfl (Below.refl _ _)
  simp only [List.nil_append, List.cons_append]
  apply step_fix
  · intro a W Zs hS hFm hz hd
    have h3 := hFm.old 3 rfl
    conv at h3 => rhs; whnf
    replace h3 := ev_get hFm.size h3
    refine .inl ⟨wanted_none rfl _, fun K hK => ?_⟩
    have HK := Lib.hid hK
    clear hd hFm hK
    go_simp
    exact HK.out _ _ rfl (Below.refl _ _)
  simp only [List.nil_append, List.cons_append]
  refine step_of (frF _ (X0)) (frF_good _ _) ?_ ?_
  · intro a W Zs hS hFm hz hd
    have h44 := ev_get hFm.size (hd 0 44 rfl rfl)
    have h45 := ev_get hFm.size (hd 1 45 rfl rfl)
    have h46 := ev_get hFm.size (hd 2 46 rfl rfl)
    refine .inl ⟨wanted_none rfl _, fun K hK => ?_⟩
    have HK := Lib.hid hK
    clear hd hFm hK
    go_simp
    refine (HM1.out _ ((hns.later hB).later (from_drew hS))).mono ?_
    rintro e W' ⟨ra, rc, rfl, hr, hfr, hb⟩
    exact HK.out _ _ ⟨ra, rc, rfl, hr, hr.foot hfr⟩ hb
  simp only [List.nil_append, List.cons_append]
  apply step_fix
  · intro a W Zs hS hFm hz hd
    have h15 := hFm.old 15 rfl
    conv at h15 => rhs; whnf
    replace h15 := ev_get hFm.size h15
    have hq := (hD.drew1.later hS).at
    unfold confBox at hq
    refine .inl ⟨wanted_none rfl _, fun K hK => ?_⟩
    have HK := Lib.hid hK
    clear hd hFm hK
    go_simp
    exact HK.out _ _ rfl (Below.refl _ _)
  simp only [List.nil_append, List.cons_append]
  apply step_fix
  · intro a W Zs hS hFm hz hd
    have h9 := hFm.old 9 rfl
    conv at h9 => rhs; whnf
    replace h9 := ev_get hFm.size h9
    have hq := (hG2.drew1.later hS).at
    unfold frBox at hq
    refine .inl ⟨wanted_none rfl _, fun K hK => ?_⟩
    have HK := Lib.hid hK
    clear hd hFm hK
    go_simp
    exact HK.out _ _ rfl (Below.refl _ _)
  simp only [List.nil_append, List.cons_append]
  apply step_fix
  · intro a W Zs hS hFm hz hd
    have h4 := hFm.old 4 rfl
    conv at h4 => rhs; whnf
    replace h4 := ev_get hFm.size h4
    refine .inl ⟨wanted_none rfl _, fun K hK => ?_⟩
    have HK := Lib.hid hK
    clear hd hFm hK
    go_simp
    exact HK.out _ _ rfl (Below.refl _ _)
  simp only [List.nil_append, List.cons_append]
  refine step_of (frF _ (Y0)) (frF_good _ _) ?_ ?_
  · intro a W Zs hS hFm hz hd
    have h48 := ev_get hFm.size (hd 4 48 rfl rfl)
    have h49 := ev_get hFm.size (hd 5 49 rfl rfl)
    have h50 := ev_get hFm.size (hd 6 50 rfl rfl)
    refine .inl ⟨wanted_none rfl _, fun K hK => ?_⟩
    have HK := Lib.hid hK
    clear hd hFm hK
    go_simp
    refine (HM2.out _ ((hms.later hB).later (from_drew hS))).mono ?_
    rintro e W' ⟨ra, rc, rfl, hr, hfr, hb⟩
    exact HK.out _ _ ⟨ra, rc, rfl, hr, hr.foot hfr⟩ hb
  simp only [List.nil_append, List.cons_append]
  refine step_of (boxF _ 29 6) (boxF_good _ _ _) ?_ ?_
  · intro a W Zs hS hFm hz hd
    refine .inl ⟨wanted_none rfl _, fun K hK => ?_⟩
    have HK := Lib.hid hK
    clear hd hFm hK
    go_simp
    exact HK.out _ _ ⟨_, _, rfl, rfl, Blk.new _ _ _, .inl ⟨Nat.le_refl _, by simp⟩⟩ (alloc_below _ _)
  simp only [List.nil_append, List.cons_append]
  refine step_of (boxF _ 29 6) (boxF_good _ _ _) ?_ ?_
  · intro a W Zs hS hFm hz hd
    refine .inl ⟨wanted_none rfl _, fun K hK => ?_⟩
    have HK := Lib.hid hK
    clear hd hFm hK
    go_simp
    exact HK.out _ _ ⟨_, _, rfl, rfl, Blk.new _ _ _, .inl ⟨Nat.le_refl _, by simp⟩⟩ (alloc_below _ _)
  simp only [List.nil_append, List.cons_append]
  refine step_of (frBoxF _ (X0)) (frBoxF_good _ _) ?_ ?_
  · intro a W Zs hS hFm hz hd hap
    obtain ⟨b17, cs17, e17, n17, q17, z17⟩ := hd 8 17 rfl rfl
    have h17 := ev_get hFm.size e17
    obtain ⟨a47, c47, e47, r47, f47⟩ := hd 3 47 rfl rfl
    have h47 := ev_get hFm.size e47
    have hB0 := (hz 8 _ rfl z17).1
    obtain ⟨u0, u1, u2, u3, u4, u5, rfl⟩ := arr6 n17
    have hq := q17.at
    have hfz := q17.frozen
    refine ⟨wanted_none rfl _, b17, z17, fun K hK => ?_⟩
    have HK := Lib.hid hK
    clear hd hFm hK
    go_simp
    exact HK.out undef _ (Only.fill6 _ _ _ _ _ _ _ _) (fun d hd' => by injection hd' with hd'; subst hd'; exact ⟨⟨b17, a47, c47, e17, q17.fill6 _ _ _ _ _ _, r47.agree f47 (store_apart (Only.fill6 W b17 _ _ _ _ _ _) hB0 z17 hap 3 rfl (by decide)), .inr (.inl rfl), ft_mono f47 (foot_depS 3 rfl rfl rfl)⟩, ⟨b17, _, e17, rfl, q17.fill6 _ _ _ _ _ _, z17⟩⟩)
  simp only [List.nil_append, List.cons_append]
  refine step_of (frBoxF _ (Y0)) (frBoxF_good _ _) ?_ ?_
  · intro a W Zs hS hFm hz hd hap
    obtain ⟨b18, cs18, e18, n18, q18, z18⟩ := hd 9 18 rfl rfl
    have h18 := ev_get hFm.size e18
    obtain ⟨a51, c51, e51, r51, f51⟩ := hd 7 51 rfl rfl
    have h51 := ev_get hFm.size e51
    have hB0 := (hz 9 _ rfl z18).1
    obtain ⟨u0, u1, u2, u3, u4, u5, rfl⟩ := arr6 n18
    have hq := q18.at
    have hfz := q18.frozen
    refine ⟨wanted_none rfl _, b18, z18, fun K hK => ?_⟩
    have HK := Lib.hid hK
    clear hd hFm hK
    go_simp
    exact HK.out undef _ (Only.fill6 _ _ _ _ _ _ _ _) (fun d hd' => by injection hd' with hd'; subst hd'; exact ⟨⟨b18, a51, c51, e18, q18.fill6 _ _ _ _ _ _, r51.agree f51 (store_apart (Only.fill6 W b18 _ _ _ _ _ _) hB0 z18 hap 7 rfl (by decide)), .inr (.inl rfl), ft_mono f51 (foot_depS 7 rfl rfl rfl)⟩, ⟨b18, _, e18, rfl, q18.fill6 _ _ _ _ _ _, z18⟩⟩)
  simp only [List.nil_append, List.cons_append]
  intro a w5 Zs hS hFm hz hd
  obtain ⟨b17, a17, c17, e17, q17, r17, f17, g17⟩ := hd 10 17 (by decide) rfl
  obtain ⟨bz, csz, ez, nz, qz, zz⟩ := hd 8 17 (by decide) rfl
  have nb17 := ptr_new ez e17 (hz 8 (by decide) bz zz)
  clear zz qz nz ez
  clear csz bz
  obtain ⟨b18, a18, c18, e18, q18, r18, f18, g18⟩ := hd 11 18 (by decide) rfl
  obtain ⟨bz, csz, ez, nz, qz, zz⟩ := hd 9 18 (by decide) rfl
  have nb18 := ptr_new ez e18 (hz 9 (by decide) bz zz)
  clear zz qz nz ez
  clear csz bz
  have e0 := hFm.old 0 rfl
  conv at e0 => rhs; whnf
  have e1 := hFm.old 1 rfl
  conv at e1 => rhs; whnf
  have e2 := hFm.old 2 rfl
  conv at e2 => rhs; whnf
  have e3 := hFm.old 3 rfl
  conv at e3 => rhs; whnf
  have e4 := hFm.old 4 rfl
  conv at e4 => rhs; whnf
  have e5 := hFm.old 5 rfl
  conv at e5 => rhs; whnf
  have e6 := hFm.old 6 rfl
  conv at e6 => rhs; whnf
  have e7 := hFm.old 7 rfl
  conv at e7 => rhs; whnf
  have e8 := hFm.old 8 rfl
  conv at e8 => rhs; whnf
  have e9 := hFm.old 9 rfl
  conv at e9 => rhs; whnf
  have e10 := hFm.old 10 rfl
  conv at e10 => rhs; whnf
  have e11 := hFm.old 11 rfl
  conv at e11 => rhs; whnf
  have e12 := hFm.old 12 rfl
  conv at e12 => rhs; whnf
  have e13 := hFm.old 13 rfl
  conv at e13 => rhs; whnf
  have e14 := hFm.old 14 rfl
  conv at e14 => rhs; whnf
  have e15 := hFm.old 15 rfl
  conv at e15 => rhs; whnf
  have e16 := hFm.old 16 rfl
  conv at e16 => rhs; whnf
  have e19 := hFm.old 19 rfl
  conv at e19 => rhs; whnf
  have e20 := hFm.old 20 rfl
  conv at e20 => rhs; whnf
  have e21 := hFm.old 21 rfl
  conv at e21 => rhs; whnf
  have e22 := hFm.old 22 rfl
  conv at e22 => rhs; whnf
  have e23 := hFm.old 23 rfl
  conv at e23 => rhs; whnf
  have e24 := hFm.old 24 rfl
  conv at e24 => rhs; whnf
  have e25 := hFm.old 25 rfl
  conv at e25 => rhs; whnf
  have e26 := hFm.old 26 rfl
  conv at e26 => rhs; whnf
  have e27 := hFm.old 27 rfl
  conv at e27 => rhs; whnf
  have e28 := hFm.old 28 rfl
  conv at e28 => rhs; whnf
  have e29 := hFm.old 29 rfl
  conv at e29 => rhs; whnf
  have e30 := hFm.old 30 rfl
  conv at e30 => rhs; whnf
  have e31 := hFm.old 31 rfl
  conv at e31 => rhs; whnf
  have e32 := hFm.old 32 rfl
  conv at e32 => rhs; whnf
  have e33 := hFm.old 33 rfl
  conv at e33 => rhs; whnf
  have e34 := hFm.old 34 rfl
  conv at e34 => rhs; whnf
  have e35 := hFm.old 35 rfl
  conv at e35 => rhs; whnf
  have e36 := hFm.old 36 rfl
  conv at e36 => rhs; whnf
  have e37 := hFm.old 37 rfl
  conv at e37 => rhs; whnf
  have e38 := hFm.old 38 rfl
  conv at e38 => rhs; whnf
  have e39 := hFm.old 39 rfl
  conv at e39 => rhs; whnf
  have e40 := hFm.old 40 rfl
  conv at e40 => rhs; whnf
  have e41 := hFm.old 41 rfl
  conv at e41 => rhs; whnf
  have e42 := hFm.old 42 rfl
  conv at e42 => rhs; whnf
  have e43 := hFm.old 43 rfl
  conv at e43 => rhs; whnf
  have e52 := hFm.old 52 rfl
  conv at e52 => rhs; whnf
  have e53 := hFm.old 53 rfl
  conv at e53 => rhs; whnf
  have e54 := hFm.old 54 rfl
  conv at e54 => rhs; whnf
  have e55 := hFm.old 55 rfl
  conv at e55 => rhs; whnf
  have e56 := hFm.old 56 rfl
  conv at e56 => rhs; whnf
  have e57 := hFm.old 57 rfl
  conv at e57 => rhs; whnf
  have e58 := hFm.old 58 rfl
  conv at e58 => rhs; whnf
  have e59 := hFm.old 59 rfl
  conv at e59 => rhs; whnf
  have e60 := hFm.old 60 rfl
  conv at e60 => rhs; whnf
  have e61 := hFm.old 61 rfl
  conv at e61 => rhs; whnf
  have e62 := hFm.old 62 rfl
  conv at e62 => rhs; whnf
  have e63 := hFm.old 63 rfl
  conv at e63 => rhs; whnf
  have e64 := hFm.old 64 rfl
  conv at e64 => rhs; whnf
  have e65 := hFm.old 65 rfl
  conv at e65 => rhs; whnf
  have e66 := hFm.old 66 rfl
  conv at e66 => rhs; whnf
  have e67 := hFm.old 67 rfl
  conv at e67 => rhs; whnf
  have e68 := hFm.old 68 rfl
  conv at e68 => rhs; whnf
  have e69 := hFm.old 69 rfl
  conv at e69 => rhs; whnf
  have e70 := hFm.old 70 rfl
  conv at e70 => rhs; whnf
  have e71 := hFm.old 71 rfl
  conv at e71 => rhs; whnf
  have e72 := hFm.old 72 rfl
  conv at e72 => rhs; whnf
  have e73 := hFm.old 73 rfl
  conv at e73 => rhs; whnf
  have e74 := hFm.old 74 rfl
  conv at e74 => rhs; whnf
  have e75 := hFm.old 75 rfl
  conv at e75 => rhs; whnf
  have e76 := hFm.old 76 rfl
  conv at e76 => rhs; whnf
  have e77 := hFm.old 77 rfl
  conv at e77 => rhs; whnf
  have e78 := hFm.old 78 rfl
  conv at e78 => rhs; whnf
  have e79 := hFm.old 79 rfl
  conv at e79 => rhs; whnf
  have e80 := hFm.old 80 rfl
  conv at e80 => rhs; whnf
  have e81 := hFm.old 81 rfl
  conv at e81 => rhs; whnf
  have e82 := hFm.old 82 rfl
  conv at e82 => rhs; whnf
  have e83 := hFm.old 83 rfl
  conv at e83 => rhs; whnf
  have e84 := hFm.old 84 rfl
  conv at e84 => rhs; whnf
  have e85 := hFm.old 85 rfl
  conv at e85 => rhs; whnf
  have e86 := hFm.old 86 rfl
  conv at e86 => rhs; whnf
  have e87 := hFm.old 87 rfl
  conv at e87 => rhs; whnf
  have e88 := hFm.old 88 rfl
  conv at e88 => rhs; whnf
  have e89 := hFm.old 89 rfl
  conv at e89 => rhs; whnf
  have e90 := hFm.old 90 rfl
  conv at e90 => rhs; whnf
  have e91 := hFm.old 91 rfl
  conv at e91 => rhs; whnf
  have e92 := hFm.old 92 rfl
  conv at e92 => rhs; whnf
  have e93 := hFm.old 93 rfl
  conv at e93 => rhs; whnf
  have e94 := hFm.old 94 rfl
  conv at e94 => rhs; whnf
  have e95 := hFm.old 95 rfl
  conv at e95 => rhs; whnf
  have e96 := hFm.old 96 rfl
  conv at e96 => rhs; whnf
  have e97 := hFm.old 97 rfl
  conv at e97 => rhs; whnf
  have e98 := hFm.old 98 rfl
  conv at e98 => rhs; whnf
  have e99 := hFm.old 99 rfl
  conv at e99 => rhs; whnf
  have e100 := hFm.old 100 rfl
  conv at e100 => rhs; whnf
  have e101 := hFm.old 101 rfl
  conv at e101 => rhs; whnf
  have e102 := hFm.old 102 rfl
  conv at e102 => rhs; whnf
  have e103 := hFm.old 103 rfl
  conv at e103 => rhs; whnf
  have e104 := hFm.old 104 rfl
  conv at e104 => rhs; whnf
  have e105 := hFm.old 105 rfl
  conv at e105 => rhs; whnf
  have e106 := hFm.old 106 rfl
  conv at e106 => rhs; whnf
  have e107 := hFm.old 107 rfl
  conv at e107 => rhs; whnf
  have e108 := hFm.old 108 rfl
  conv at e108 => rhs; whnf
  have e109 := hFm.old 109 rfl
  conv at e109 => rhs; whnf
  have e110 := hFm.old 110 rfl
  conv at e110 => rhs; whnf
  have e111 := hFm.old 111 rfl
  conv at e111 => rhs; whnf
  have e112 := hFm.old 112 rfl
  conv at e112 => rhs; whnf
  have e113 := hFm.old 113 rfl
  conv at e113 => rhs; whnf
  have e114 := hFm.old 114 rfl
  conv at e114 => rhs; whnf
  have e115 := hFm.old 115 rfl
  conv at e115 => rhs; whnf
  have e116 := hFm.old 116 rfl
  conv at e116 => rhs; whnf
  have e117 := hFm.old 117 rfl
  conv at e117 => rhs; whnf
  have e118 := hFm.old 118 rfl
  conv at e118 => rhs; whnf
  have e119 := hFm.old 119 rfl
  conv at e119 => rhs; whnf
  have e120 := hFm.old 120 rfl
  conv at e120 => rhs; whnf
  have e121 := hFm.old 121 rfl
  conv at e121 => rhs; whnf
  have e122 := hFm.old 122 rfl
  conv at e122 => rhs; whnf
  have e123 := hFm.old 123 rfl
  conv at e123 => rhs; whnf
  have e124 := hFm.old 124 rfl
  conv at e124 => rhs; whnf
  have e125 := hFm.old 125 rfl
  conv at e125 => rhs; whnf
  have e126 := hFm.old 126 rfl
  conv at e126 => rhs; whnf
  have e127 := hFm.old 127 rfl
  conv at e127 => rhs; whnf
  have e128 := hFm.old 128 rfl
  conv at e128 => rhs; whnf
  have e129 := hFm.old 129 rfl
  conv at e129 => rhs; whnf
  have e130 := hFm.old 130 rfl
  conv at e130 => rhs; whnf
  have e131 := hFm.old 131 rfl
  conv at e131 => rhs; whnf
  have e132 := hFm.old 132 rfl
  conv at e132 => rhs; whnf
  have e133 := hFm.old 133 rfl
  conv at e133 => rhs; whnf
  have e134 := hFm.old 134 rfl
  conv at e134 => rhs; whnf
  have e135 := hFm.old 135 rfl
  conv at e135 => rhs; whnf
  have e136 := hFm.old 136 rfl
  conv at e136 => rhs; whnf
  have e137 := hFm.old 137 rfl
  conv at e137 => rhs; whnf
  have e138 := hFm.old 138 rfl
  conv at e138 => rhs; whnf
  have e139 := hFm.old 139 rfl
  conv at e139 => rhs; whnf
  have e140 := hFm.old 140 rfl
  conv at e140 => rhs; whnf
  have e141 := hFm.old 141 rfl
  conv at e141 => rhs; whnf
  have e142 := hFm.old 142 rfl
  conv at e142 => rhs; whnf
  have e143 := hFm.old 143 rfl
  conv at e143 => rhs; whnf
  have e144 := hFm.old 144 rfl
  conv at e144 => rhs; whnf
  have e145 := hFm.old 145 rfl
  conv at e145 => rhs; whnf
  have e146 := hFm.old 146 rfl
  conv at e146 => rhs; whnf
  have e147 := hFm.old 147 rfl
  conv at e147 => rhs; whnf
  have e148 := hFm.old 148 rfl
  conv at e148 => rhs; whnf
  have e149 := hFm.old 149 rfl
  conv at e149 => rhs; whnf
  have e150 := hFm.old 150 rfl
  conv at e150 => rhs; whnf
  have e151 := hFm.old 151 rfl
  conv at e151 => rhs; whnf
  have e152 := hFm.old 152 rfl
  conv at e152 => rhs; whnf
  have e153 := hFm.old 153 rfl
  conv at e153 => rhs; whnf
  have e154 := hFm.old 154 rfl
  conv at e154 => rhs; whnf
  have e155 := hFm.old 155 rfl
  conv at e155 => rhs; whnf
  have e156 := hFm.old 156 rfl
  conv at e156 => rhs; whnf
  have e157 := hFm.old 157 rfl
  conv at e157 => rhs; whnf
  have e158 := hFm.old 158 rfl
  conv at e158 => rhs; whnf
  have e159 := hFm.old 159 rfl
  conv at e159 => rhs; whnf
  have e160 := hFm.old 160 rfl
  conv at e160 => rhs; whnf
  have e161 := hFm.old 161 rfl
  conv at e161 => rhs; whnf
  have e162 := hFm.old 162 rfl
  conv at e162 => rhs; whnf
  have e163 := hFm.old 163 rfl
  conv at e163 => rhs; whnf
  have e164 := hFm.old 164 rfl
  conv at e164 => rhs; whnf
  have e165 := hFm.old 165 rfl
  conv at e165 => rhs; whnf
  have e166 := hFm.old 166 rfl
  conv at e166 => rhs; whnf
  have e167 := hFm.old 167 rfl
  conv at e167 => rhs; whnf
  have e168 := hFm.old 168 rfl
  conv at e168 => rhs; whnf
  have e169 := hFm.old 169 rfl
  conv at e169 => rhs; whnf
  have e170 := hFm.old 170 rfl
  conv at e170 => rhs; whnf
  have e171 := hFm.old 171 rfl
  conv at e171 => rhs; whnf
  have e172 := hFm.old 172 rfl
  conv at e172 => rhs; whnf
  have e173 := hFm.old 173 rfl
  conv at e173 => rhs; whnf
  have e174 := hFm.old 174 rfl
  conv at e174 => rhs; whnf
  have e175 := hFm.old 175 rfl
  conv at e175 => rhs; whnf
  have e176 := hFm.old 176 rfl
  conv at e176 => rhs; whnf
  have e177 := hFm.old 177 rfl
  conv at e177 => rhs; whnf
  have e178 := hFm.old 178 rfl
  conv at e178 => rhs; whnf
  have e179 := hFm.old 179 rfl
  conv at e179 => rhs; whnf
  have e180 := hFm.old 180 rfl
  conv at e180 => rhs; whnf
  have e181 := hFm.old 181 rfl
  conv at e181 => rhs; whnf
  have e182 := hFm.old 182 rfl
  conv at e182 => rhs; whnf
  have e183 := hFm.old 183 rfl
  conv at e183 => rhs; whnf
  have e184 := hFm.old 184 rfl
  conv at e184 => rhs; whnf
  have e185 := hFm.old 185 rfl
  conv at e185 => rhs; whnf
  have e186 := hFm.old 186 rfl
  conv at e186 => rhs; whnf
  have e187 := hFm.old 187 rfl
  conv at e187 => rhs; whnf
  have e188 := hFm.old 188 rfl
  conv at e188 => rhs; whnf
  have e189 := hFm.old 189 rfl
  conv at e189 => rhs; whnf
  have e190 := hFm.old 190 rfl
  conv at e190 => rhs; whnf
  have e191 := hFm.old 191 rfl
  conv at e191 => rhs; whnf
  have e192 := hFm.old 192 rfl
  conv at e192 => rhs; whnf
  have e193 := hFm.old 193 rfl
  conv at e193 => rhs; whnf
  have e194 := hFm.old 194 rfl
  conv at e194 => rhs; whnf
  have e195 := hFm.old 195 rfl
  conv at e195 => rhs; whnf
  have e196 := hFm.old 196 rfl
  conv at e196 => rhs; whnf
  have e197 := hFm.old 197 rfl
  conv at e197 => rhs; whnf
  have e198 := hFm.old 198 rfl
  conv at e198 => rhs; whnf
  have e199 := hFm.old 199 rfl
  conv at e199 => rhs; whnf
  have e200 := hFm.old 200 rfl
  conv at e200 => rhs; whnf
  have hsz := hFm.size
  have hdf := hFm.defers
  clear hd hFm
  obtain ⟨t, df⟩ := a
  simp only at hsz hdf
  subst hdf
  obtain ⟨x, hx⟩ : ∃ x : Nat → Value, ∀ i, t.getD i undef = x i := ⟨fun i => t.getD i undef, fun _ => rfl⟩
  have h17 := (hx 17).symm.trans e17
  have h18 := (hx 18).symm.trans e18
  have h0 := (hx 0).symm.trans e0
  have h1 := (hx 1).symm.trans e1
  have h2 := (hx 2).symm.trans e2
  have h3 := (hx 3).symm.trans e3
  have h4 := (hx 4).symm.trans e4
  have h5 := (hx 5).symm.trans e5
  have h6 := (hx 6).symm.trans e6
  have h7 := (hx 7).symm.trans e7
  have h8 := (hx 8).symm.trans e8
  have h9 := (hx 9).symm.trans e9
  have h10 := (hx 10).symm.trans e10
  have h11 := (hx 11).symm.trans e11
  have h12 := (hx 12).symm.trans e12
  have h13 := (hx 13).symm.trans e13
  have h14 := (hx 14).symm.trans e14
  have h15 := (hx 15).symm.trans e15
  have h16 := (hx 16).symm.trans e16
  have h19 := (hx 19).symm.trans e19
  have h20 := (hx 20).symm.trans e20
  have h21 := (hx 21).symm.trans e21
  have h22 := (hx 22).symm.trans e22
  have h23 := (hx 23).symm.trans e23
  have h24 := (hx 24).symm.trans e24
  have h25 := (hx 25).symm.trans e25
  have h26 := (hx 26).symm.trans e26
  have h27 := (hx 27).symm.trans e27
  have h28 := (hx 28).symm.trans e28
  have h29 := (hx 29).symm.trans e29
  have h30 := (hx 30).symm.trans e30
  have h31 := (hx 31).symm.trans e31
  have h32 := (hx 32).symm.trans e32
  have h33 := (hx 33).symm.trans e33
  have h34 := (hx 34).symm.trans e34
  have h35 := (hx 35).symm.trans e35
  have h36 := (hx 36).symm.trans e36
  have h37 := (hx 37).symm.trans e37
  have h38 := (hx 38).symm.trans e38
  have h39 := (hx 39).symm.trans e39
  have h40 := (hx 40).symm.trans e40
  have h41 := (hx 41).symm.trans e41
  have h42 := (hx 42).symm.trans e42
  have h43 := (hx 43).symm.trans e43
  have h52 := (hx 52).symm.trans e52
  have h53 := (hx 53).symm.trans e53
  have h54 := (hx 54).symm.trans e54
  have h55 := (hx 55).symm.trans e55
  have h56 := (hx 56).symm.trans e56
  have h57 := (hx 57).symm.trans e57
  have h58 := (hx 58).symm.trans e58
  have h59 := (hx 59).symm.trans e59
  have h60 := (hx 60).symm.trans e60
  have h61 := (hx 61).symm.trans e61
  have h62 := (hx 62).symm.trans e62
  have h63 := (hx 63).symm.trans e63
  have h64 := (hx 64).symm.trans e64
  have h65 := (hx 65).symm.trans e65
  have h66 := (hx 66).symm.trans e66
  have h67 := (hx 67).symm.trans e67
  have h68 := (hx 68).symm.trans e68
  have h69 := (hx 69).symm.trans e69
  have h70 := (hx 70).symm.trans e70
  have h71 := (hx 71).symm.trans e71
  have h72 := (hx 72).symm.trans e72
  have h73 := (hx 73).symm.trans e73
  have h74 := (hx 74).symm.trans e74
  have h75 := (hx 75).symm.trans e75
  have h76 := (hx 76).symm.trans e76
  have h77 := (hx 77).symm.trans e77
  have h78 := (hx 78).symm.trans e78
  have h79 := (hx 79).symm.trans e79
  have h80 := (hx 80).symm.trans e80
  have h81 := (hx 81).symm.trans e81
  have h82 := (hx 82).symm.trans e82
  have h83 := (hx 83).symm.trans e83
  have h84 := (hx 84).symm.trans e84
  have h85 := (hx 85).symm.trans e85
  have h86 := (hx 86).symm.trans e86
  have h87 := (hx 87).symm.trans e87
  have h88 := (hx 88).symm.trans e88
  have h89 := (hx 89).symm.trans e89
  have h90 := (hx 90).symm.trans e90
  have h91 := (hx 91).symm.trans e91
  have h92 := (hx 92).symm.trans e92
  have h93 := (hx 93).symm.trans e93
  have h94 := (hx 94).symm.trans e94
  have h95 := (hx 95).symm.trans e95
  have h96 := (hx 96).symm.trans e96
  have h97 := (hx 97).symm.trans e97
  have h98 := (hx 98).symm.trans e98
  have h99 := (hx 99).symm.trans e99
  have h100 := (hx 100).symm.trans e100
  have h101 := (hx 101).symm.trans e101
  have h102 := (hx 102).symm.trans e102
  have h103 := (hx 103).symm.trans e103
  have h104 := (hx 104).symm.trans e104
  have h105 := (hx 105).symm.trans e105
  have h106 := (hx 106).symm.trans e106
  have h107 := (hx 107).symm.trans e107
  have h108 := (hx 108).symm.trans e108
  have h109 := (hx 109).symm.trans e109
  have h110 := (hx 110).symm.trans e110
  have h111 := (hx 111).symm.trans e111
  have h112 := (hx 112).symm.trans e112
  have h113 := (hx 113).symm.trans e113
  have h114 := (hx 114).symm.trans e114
  have h115 := (hx 115).symm.trans e115
  have h116 := (hx 116).symm.trans e116
  have h117 := (hx 117).symm.trans e117
  have h118 := (hx 118).symm.trans e118
  have h119 := (hx 119).symm.trans e119
  have h120 := (hx 120).symm.trans e120
  have h121 := (hx 121).symm.trans e121
  have h122 := (hx 122).symm.trans e122
  have h123 := (hx 123).symm.trans e123
  have h124 := (hx 124).symm.trans e124
  have h125 := (hx 125).symm.trans e125
  have h126 := (hx 126).symm.trans e126
  have h127 := (hx 127).symm.trans e127
  have h128 := (hx 128).symm.trans e128
  have h129 := (hx 129).symm.trans e129
  have h130 := (hx 130).symm.trans e130
  have h131 := (hx 131).symm.trans e131
  have h132 := (hx 132).symm.trans e132
  have h133 := (hx 133).symm.trans e133
  have h134 := (hx 134).symm.trans e134
  have h135 := (hx 135).symm.trans e135
  have h136 := (hx 136).symm.trans e136
  have h137 := (hx 137).symm.trans e137
  have h138 := (hx 138).symm.trans e138
  have h139 := (hx 139).symm.trans e139
  have h140 := (hx 140).symm.trans e140
  have h141 := (hx 141).symm.trans e141
  have h142 := (hx 142).symm.trans e142
  have h143 := (hx 143).symm.trans e143
  have h144 := (hx 144).symm.trans e144
  have h145 := (hx 145).symm.trans e145
  have h146 := (hx 146).symm.trans e146
  have h147 := (hx 147).symm.trans e147
  have h148 := (hx 148).symm.trans e148
  have h149 := (hx 149).symm.trans e149
  have h150 := (hx 150).symm.trans e150
  have h151 := (hx 151).symm.trans e151
  have h152 := (hx 152).symm.trans e152
  have h153 := (hx 153).symm.trans e153
  have h154 := (hx 154).symm.trans e154
  have h155 := (hx 155).symm.trans e155
  have h156 := (hx 156).symm.trans e156
  have h157 := (hx 157).symm.trans e157
  have h158 := (hx 158).symm.trans e158
  have h159 := (hx 159).symm.trans e159
  have h160 := (hx 160).symm.trans e160
  have h161 := (hx 161).symm.trans e161
  have h162 := (hx 162).symm.trans e162
  have h163 := (hx 163).symm.trans e163
  have h164 := (hx 164).symm.trans e164
  have h165 := (hx 165).symm.trans e165
  have h166 := (hx 166).symm.trans e166
  have h167 := (hx 167).symm.trans e167
  have h168 := (hx 168).symm.trans e168
  have h169 := (hx 169).symm.trans e169
  have h170 := (hx 170).symm.trans e170
  have h171 := (hx 171).symm.trans e171
  have h172 := (hx 172).symm.trans e172
  have h173 := (hx 173).symm.trans e173
  have h174 := (hx 174).symm.trans e174
  have h175 := (hx 175).symm.trans e175
  have h176 := (hx 176).symm.trans e176
  have h177 := (hx 177).symm.trans e177
  have h178 := (hx 178).symm.trans e178
  have h179 := (hx 179).symm.trans e179
  have h180 := (hx 180).symm.trans e180
  have h181 := (hx 181).symm.trans e181
  have h182 := (hx 182).symm.trans e182
  have h183 := (hx 183).symm.trans e183
  have h184 := (hx 184).symm.trans e184
  have h185 := (hx 185).symm.trans e185
  have h186 := (hx 186).symm.trans e186
  have h187 := (hx 187).symm.trans e187
  have h188 := (hx 188).symm.trans e188
  have h189 := (hx 189).symm.trans e189
  have h190 := (hx 190).symm.trans e190
  have h191 := (hx 191).symm.trans e191
  have h192 := (hx 192).symm.trans e192
  have h193 := (hx 193).symm.trans e193
  have h194 := (hx 194).symm.trans e194
  have h195 := (hx 195).symm.trans e195
  have h196 := (hx 196).symm.trans e196
  have h197 := (hx 197).symm.trans e197
  have h198 := (hx 198).symm.trans e198
  have h199 := (hx 199).symm.trans e199
  have h200 := (hx 200).symm.trans e200
  have ht' : t = #[x 0, x 1, x 2, x 3, x 4, x 5, x 6, x 7, x 8, x 9, x 10, x 11, x 12, x 13, x 14, x 15, x 16, x 17, x 18, x 19, x 20, x 21, x 22, x 23, x 24, x 25, x 26, x 27, x 28, x 29, x 30, x 31, x 32, x 33, x 34, x 35, x 36, x 37, x 38, x 39, x 40, x 41, x 42, x 43, x 44, x 45, x 46, x 47, x 48, x 49, x 50, x 51, x 52, x 53, x 54, x 55, x 56, x 57, x 58, x 59, x 60, x 61, x 62, x 63, x 64, x 65, x 66, x 67, x 68, x 69, x 70, x 71, x 72, x 73, x 74, x 75, x 76, x 77, x 78, x 79, x 80, x 81, x 82, x 83, x 84, x 85, x 86, x 87, x 88, x 89, x 90, x 91, x 92, x 93, x 94, x 95, x 96, x 97, x 98, x 99, x 100, x 101, x 102, x 103, x 104, x 105, x 106, x 107, x 108, x 109, x 110, x 111, x 112, x 113, x 114, x 115, x 116, x 117, x 118, x 119, x 120, x 121, x 122, x 123, x 124, x 125, x 126, x 127, x 128, x 129, x 130, x 131, x 132, x 133, x 134, x 135, x 136, x 137, x 138, x 139, x 140, x 141, x 142, x 143, x 144, x 145, x 146, x 147, x 148, x 149, x 150, x 151, x 152, x 153, x 154, x 155, x 156, x 157, x 158, x 159, x 160, x 161, x 162, x 163, x 164, x 165, x 166, x 167, x 168, x 169, x 170, x 171, x 172, x 173, x 174, x 175, x 176, x 177, x 178, x 179, x 180, x 181, x 182, x 183, x 184, x 185, x 186, x 187, x 188, x 189, x 190, x 191, x 192, x 193, x 194, x 195, x 196, x 197, x 198, x 199, x 200] := frame_lit t 201 hsz x hx
  clear hx hsz hz e17 e18 e0 e1 e2 e3 e4 e5 e6 e7 e8 e9 e10 e11 e12 e13 e14 e15 e16 e19 e20 e21 e22 e23 e24 e25 e26 e27 e28 e29 e30 e31 e32 e33 e34 e35 e36 e37 e38 e39 e40 e41 e42 e43 e52 e53 e54 e55 e56 e57 e58 e59 e60 e61 e62 e63 e64 e65 e66 e67 e68 e69 e70 e71 e72 e73 e74 e75 e76 e77 e78 e79 e80 e81 e82 e83 e84 e85 e86 e87 e88 e89 e90 e91 e92 e93 e94 e95 e96 e97 e98 e99 e100 e101 e102 e103 e104 e105 e106 e107 e108 e109 e110 e111 e112 e113 e114 e115 e116 e117 e118 e119 e120 e121 e122 e123 e124 e125 e126 e127 e128 e129 e130 e131 e132 e133 e134 e135 e136 e137 e138 e139 e140 e141 e142 e143 e144 e145 e146 e147 e148 e149 e150 e151 e152 e153 e154 e155 e156 e157 e158 e159 e160 e161 e162 e163 e164 e165 e166 e167 e168 e169 e170 e171 e172 e173 e174 e175 e176 e177 e178 e179 e180 e181 e182 e183 e184 e185 e186 e187 e188 e189 e190 e191 e192 e193 e194 e195 e196 e197 e198 e199 e200
  subst ht'
  (try dsimp only)
  rw [h17, h18, h0, h1, h2, h3, h4, h5, h6, h7, h8, h9, h10, h11, h12, h13, h14, h15, h16, h19, h20, h21, h22, h23, h24, h25, h26, h27, h28, h29, h30, h31, h32, h33, h34, h35, h36, h37, h38, h39, h40, h41, h42, h43, h52, h53, h54, h55, h56, h57, h58, h59, h60, h61, h62, h63, h64, h65, h66, h67, h68, h69, h70, h71, h72, h73, h74, h75, h76, h77, h78, h79, h80, h81, h82, h83, h84, h85, h86, h87, h88, h89, h90, h91, h92, h93, h94, h95, h96, h97, h98, h99, h100, h101, h102, h103, h104, h105, h106, h107, h108, h109, h110, h111, h112, h113, h114, h115, h116, h117, h118, h119, h120, h121, h122, h123, h124, h125, h126, h127, h128, h129, h130, h131, h132, h133, h134, h135, h136, h137, h138, h139, h140, h141, h142, h143, h144, h145, h146, h147, h148, h149, h150, h151, h152, h153, h154, h155, h156, h157, h158, h159, h160, h161, h162, h163, h164, h165, h166, h167, h168, h169, h170, h171, h172, h173, h174, h175, h176, h177, h178, h179, h180, h181, h182, h183, h184, h185, h186, h187, h188, h189, h190, h191, h192, h193, h194, h195, h196, h197, h198, h199, h200]
  clear h17 h18 h0 h1 h2 h3 h4 h5 h6 h7 h8 h9 h10 h11 h12 h13 h14 h15 h16 h19 h20 h21 h22 h23 h24 h25 h26 h27 h28 h29 h30 h31 h32 h33 h34 h35 h36 h37 h38 h39 h40 h41 h42 h43 h52 h53 h54 h55 h56 h57 h58 h59 h60 h61 h62 h63 h64 h65 h66 h67 h68 h69 h70 h71 h72 h73 h74 h75 h76 h77 h78 h79 h80 h81 h82 h83 h84 h85 h86 h87 h88 h89 h90 h91 h92 h93 h94 h95 h96 h97 h98 h99 h100 h101 h102 h103 h104 h105 h106 h107 h108 h109 h110 h111 h112 h113 h114 h115 h116 h117 h118 h119 h120 h121 h122 h123 h124 h125 h126 h127 h128 h129 h130 h131 h132 h133 h134 h135 h136 h137 h138 h139 h140 h141 h142 h143 h144 h145 h146 h147 h148 h149 h150 h151 h152 h153 h154 h155 h156 h157 h158 h159 h160 h161 h162 h163 h164 h165 h166 h167 h168 h169 h170 h171 h172 h173 h174 h175 h176 h177 h178 h179 h180 h181 h182 h183 h184 h185 h186 h187 h188 h189 h190 h191 h192 h193 h194 h195 h196 h197 h198 h199 h200
  rw [undef_fold]
  have hb := from_drew hS
  have hdb := hD.lt
  have hwB := hB.size
  have nx : w4.heap.size ≤ b17 ∧ b17 < w5.heap.size := nb17
  have ny : w4.heap.size ≤ b18 ∧ b18 < w5.heap.size := nb18
  have hrdl := hrd.ltR
  have ex := ok_echo hok hokX
  have ey := ok_echo hok hokY
  have hM : T7 d da dc db b17 b18 X0 Y0 a17 c17 a18 c18 w w5 := by
    have x1 := rowT_box r17 q17 rfl ex
    have x2 := rowT_box r17 q18 rfl ex
    have y1 := rowT_box r18 q17 rfl ey
    have y2 := rowT_box r18 q18 rfl ey
    refine ⟨hB.trans (hb.mono hB.size), hD.later hb, hrd.later hb, q17, q18, r17, r18, by omega, by omega, ⟨by omega, by omega⟩, hrdl.imp id fun q y e => by have := q y e; omega, ?_, ?_⟩
    · rcases x1 with e | x1
      · exact .inl e
      · rcases x2 with e | x2
        · exact .inl e
        · exact .inr fun y e => ⟨x1 y e, x2 y e⟩
    · rcases y1 with e | y1
      · exact .inl e
      · rcases y2 with e | y2
        · exact .inl e
        · exact .inr fun y e => ⟨y1 y e, y2 y e⟩
  clear hS hb hD hrd hB q17 q18 r17 r18 f17 f18 g17 g18 nb17 nb18 hF2 hG2 HM1 HM2 ex ey hrdl
  have HWi := Lib.hid (fun W => rwire_any d da dc r W hok (by omega) (by omega))
  obtain ⟨R0, R1⟩ := wireI_range d r
  have HOX := Lib.hid (okR hokX (wireI d r) R0 R1)
  have HOY := Lib.hid (okR hokY (wireI d r) R0 R1)
  obtain ⟨R, hR⟩ : ∃ R, R = wireI d r := ⟨_, rfl⟩
  rw [← hR] at HWi HOX HOY R0 R1
  have HRw := Lib.hid hR
  clear hR
  clear hokX hokY
  go_upto_region 9 with fail
  go_cut [54] (fun s wx => s = .int .i64 R ∧ T7 d da dc db b17 b18 { X0 with R := R } { Y0 with R := R } a17 c17 a18 c18 w wx)
  case first =>
    replace hM := hM.later (Below.refl _ _).drew
    have qD := hM.hD.at
    unfold confBox at qD
    go_region_with ((go_at_call 13; refine (HWi.out _).mono ?_; rintro e wq ⟨rfl, hb⟩; replace hM := hM.later hb; clear hb qD; have qD := hM.hD.at; unfold confBox at qD; (try clear q7 f7 q8 f8 e9 f9); obtain ⟨u9, e9, f9⟩ := hM.mid R; have q7 := hM.hX.at; have f7 := hM.hX.frozen; have q8 := hM.hY.at; have f8 := hM.hY.frozen; unfold frBox at q7 q8))
    all_goals go_wp2_with fail
    all_goals go_meet
    all_goals exact ⟨rfl, hM.wire R⟩
  case rest =>
    obtain ⟨rfl, hM⟩ := hcut
    obtain ⟨X1, hX1⟩ : ∃ X1 : Fr, ({ X0 with R := R } : Fr) = X1 := ⟨_, rfl⟩
    obtain ⟨Y1, hY1⟩ : ∃ Y1 : Fr, ({ Y0 with R := R } : Fr) = Y1 := ⟨_, rfl⟩
    rw [hX1, hY1] at hM
    rw [hX1] at HOX
    rw [hY1] at HOY
    have HX1 := Lib.hid hX1
    have HY1 := Lib.hid hY1
    clear hX1 hY1
    have HTx := Lib.hid (fun W (h : RowT W a17 X1.E) => rText_ok d da dc X1 a17 c17 W hok HOX.out h)
    have HTy := Lib.hid (fun W (h : RowT W a18 Y1.E) => rText_ok d da dc Y1 a18 c18 W hok HOY.out h)
    have lx : (textF X1).length ≤ 1048576 := by
      have h1 := textF_length X1
      have h2 := (ok_small hok HOX.out).2.2.2.2.2
      omega
    have ly : (textF Y1).length ≤ 1048576 := by
      have h1 := textF_length Y1
      have h2 := (ok_small hok HOY.out).2.2.2.2.2
      omega
    have n6 := hok.n6; have n12 := hok.n12; have nl := hok.len
    have hXS : X1.S < d.N ∧ Y1.S = X1.S ∧ X1.R = R ∧ Y1.R = R := by
      have e1 := HSX.out
      have e2 := HSY.out
      refine ⟨?_, ?_, ?_, ?_⟩
      · rw [← HX1.out]
        show X0.S < d.N
        rw [e1, Int.emod_eq_of_lt y0 (by unfold slotsI; omega)]
        omega
      · rw [← HX1.out, ← HY1.out]
        show Y0.S = X0.S
        rw [e1, e2]
      · rw [← HX1.out]
      · rw [← HY1.out]
    have lx : (textF X1).length ≤ 1048576 := by
      have h1 := textF_length X1
      have h2 := (ok_small hok HOX.out).2.2.2.2.2
      omega
    have ly : (textF Y1).length ≤ 1048576 := by
      have h1 := textF_length Y1
      have h2 := (ok_small hok HOY.out).2.2.2.2.2
      omega
    have lx1 : 1 ≤ (textF X1).length := by rw [textF_length]; omega
    have HT10 := Lib.hid (fun (k : Nat) (hk : k < 10) => rule_ten (r := r) hok HOX.out HOY.out (hXS.2.2.1.trans HRw.out) (hXS.2.2.2.trans HRw.out) hXS.2.1 hXS.1 k hk)
    clear hXS HSX HSY HX1 HY1 HRw nl
    generalize textF X1 = tx at *
    generalize textF Y1 = ty at *
    have hD := hM.hD
    have hXb := hM.hX
    have hYb := hM.hY
    have hrx := hM.hrx
    have hry := hM.hry
    go_upto_region 10 with fail
    refine region_slots [some 60, some 61, some 62, some 63, some 64, some 65, some 19, some 20] [none, none, none, none, none, none, none, none] 201 8 rfl (by kernel_rfl) (by kernel_rfl) rfl rfl ?_
    apply step_fix
    · intro a W Zs hS hFm hz hd
      have h15 := hFm.old 15 rfl
      conv at h15 => rhs; whnf
      replace h15 := ev_get hFm.size h15
      have hq := (hD.drew1.later hS).at
      unfold confBox at hq
      refine .inl ⟨wanted_none rfl _, fun K hK => ?_⟩
      have HK := Lib.hid hK
      clear hd hFm hK
      go_simp
      exact HK.out _ _ rfl (Below.refl _ _)
    simp only [List.nil_append, List.cons_append]
    apply step_fix
    · intro a W Zs hS hFm hz hd
      have h17 := hFm.old 17 rfl
      conv at h17 => rhs; whnf
      replace h17 := ev_get hFm.size h17
      have hq := (hXb.drew1.later hS).at
      unfold frBox at hq
      refine .inl ⟨wanted_none rfl _, fun K hK => ?_⟩
      have HK := Lib.hid hK
      clear hd hFm hK
      go_simp
      exact HK.out _ _ rfl (Below.refl _ _)
    simp only [List.nil_append, List.cons_append]
    apply step_fix
    · intro a W Zs hS hFm hz hd
      have h60 := ev_get hFm.size (hd 0 60 rfl rfl)
      have h61 := ev_get hFm.size (hd 1 61 rfl rfl)
      refine .inl ⟨wanted_none rfl _, fun K hK => ?_⟩
      have HK := Lib.hid hK
      clear hd hFm hK
      go_simp
      refine (HTx.out _ (hrx.drew1.later hS)).mono ?_
      rintro e W' ⟨rfl, hb⟩
      exact HK.out _ _ rfl hb
    simp only [List.nil_append, List.cons_append]
    apply step_fix
    · intro a W Zs hS hFm hz hd
      have h15 := hFm.old 15 rfl
      conv at h15 => rhs; whnf
      replace h15 := ev_get hFm.size h15
      have hq := (hD.drew1.later hS).at
      unfold confBox at hq
      refine .inl ⟨wanted_none rfl _, fun K hK => ?_⟩
      have HK := Lib.hid hK
      clear hd hFm hK
      go_simp
      exact HK.out _ _ rfl (Below.refl _ _)
    simp only [List.nil_append, List.cons_append]
    apply step_fix
    · intro a W Zs hS hFm hz hd
      have h18 := hFm.old 18 rfl
      conv at h18 => rhs; whnf
      replace h18 := ev_get hFm.size h18
      have hq := (hYb.drew1.later hS).at
      unfold frBox at hq
      refine .inl ⟨wanted_none rfl _, fun K hK => ?_⟩
      have HK := Lib.hid hK
      clear hd hFm hK
      go_simp
      exact HK.out _ _ rfl (Below.refl _ _)
    simp only [List.nil_append, List.cons_append]
    apply step_fix
    · intro a W Zs hS hFm hz hd
      have h63 := ev_get hFm.size (hd 3 63 rfl rfl)
      have h64 := ev_get hFm.size (hd 4 64 rfl rfl)
      refine .inl ⟨wanted_none rfl _, fun K hK => ?_⟩
      have HK := Lib.hid hK
      clear hd hFm hK
      go_simp
      refine (HTy.out _ (hry.drew1.later hS)).mono ?_
      rintro e W' ⟨rfl, hb⟩
      exact HK.out _ _ rfl hb
    simp only [List.nil_append, List.cons_append]
    apply step_fix
    · intro a W Zs hS hFm hz hd
      have h62 := ev_get hFm.size (hd 2 62 rfl rfl)
      refine .inl ⟨wanted_none rfl _, fun K hK => ?_⟩
      have HK := Lib.hid hK
      clear hd hFm hK
      go_simp
      exact HK.out _ _ rfl (Below.refl _ _)
    simp only [List.nil_append, List.cons_append]
    apply step_fix
    · intro a W Zs hS hFm hz hd
      have h65 := ev_get hFm.size (hd 5 65 rfl rfl)
      refine .inl ⟨wanted_none rfl _, fun K hK => ?_⟩
      have HK := Lib.hid hK
      clear hd hFm hK
      go_simp
      exact HK.out _ _ rfl (Below.refl _ _)
    simp only [List.nil_append, List.cons_append]
    intro a w7 Zs hS hFm hz hd
    have e19 := hd 6 19 (by decide) rfl
    have e20 := hd 7 20 (by decide) rfl
    have e0 := hFm.old 0 rfl
    conv at e0 => rhs; whnf
    have e1 := hFm.old 1 rfl
    conv at e1 => rhs; whnf
    have e2 := hFm.old 2 rfl
    conv at e2 => rhs; whnf
    have e3 := hFm.old 3 rfl
    conv at e3 => rhs; whnf
    have e4 := hFm.old 4 rfl
    conv at e4 => rhs; whnf
    have e5 := hFm.old 5 rfl
    conv at e5 => rhs; whnf
    have e6 := hFm.old 6 rfl
    conv at e6 => rhs; whnf
    have e7 := hFm.old 7 rfl
    conv at e7 => rhs; whnf
    have e8 := hFm.old 8 rfl
    conv at e8 => rhs; whnf
    have e9 := hFm.old 9 rfl
    conv at e9 => rhs; whnf
    have e10 := hFm.old 10 rfl
    conv at e10 => rhs; whnf
    have e11 := hFm.old 11 rfl
    conv at e11 => rhs; whnf
    have e12 := hFm.old 12 rfl
    conv at e12 => rhs; whnf
    have e13 := hFm.old 13 rfl
    conv at e13 => rhs; whnf
    have e14 := hFm.old 14 rfl
    conv at e14 => rhs; whnf
    have e15 := hFm.old 15 rfl
    conv at e15 => rhs; whnf
    have e16 := hFm.old 16 rfl
    conv at e16 => rhs; whnf
    have e17 := hFm.old 17 rfl
    conv at e17 => rhs; whnf
    have e18 := hFm.old 18 rfl
    conv at e18 => rhs; whnf
    have e21 := hFm.old 21 rfl
    conv at e21 => rhs; whnf
    have e22 := hFm.old 22 rfl
    conv at e22 => rhs; whnf
    have e23 := hFm.old 23 rfl
    conv at e23 => rhs; whnf
    have e24 := hFm.old 24 rfl
    conv at e24 => rhs; whnf
    have e25 := hFm.old 25 rfl
    conv at e25 => rhs; whnf
    have e26 := hFm.old 26 rfl
    conv at e26 => rhs; whnf
    have e27 := hFm.old 27 rfl
    conv at e27 => rhs; whnf
    have e28 := hFm.old 28 rfl
    conv at e28 => rhs; whnf
    have e29 := hFm.old 29 rfl
    conv at e29 => rhs; whnf
    have e30 := hFm.old 30 rfl
    conv at e30 => rhs; whnf
    have e31 := hFm.old 31 rfl
    conv at e31 => rhs; whnf
    have e32 := hFm.old 32 rfl
    conv at e32 => rhs; whnf
    have e33 := hFm.old 33 rfl
    conv at e33 => rhs; whnf
    have e34 := hFm.old 34 rfl
    conv at e34 => rhs; whnf
    have e35 := hFm.old 35 rfl
    conv at e35 => rhs; whnf
    have e36 := hFm.old 36 rfl
    conv at e36 => rhs; whnf
    have e37 := hFm.old 37 rfl
    conv at e37 => rhs; whnf
    have e38 := hFm.old 38 rfl
    conv at e38 => rhs; whnf
    have e39 := hFm.old 39 rfl
    conv at e39 => rhs; whnf
    have e40 := hFm.old 40 rfl
    conv at e40 => rhs; whnf
    have e41 := hFm.old 41 rfl
    conv at e41 => rhs; whnf
    have e42 := hFm.old 42 rfl
    conv at e42 => rhs; whnf
    have e43 := hFm.old 43 rfl
    conv at e43 => rhs; whnf
    have e44 := hFm.old 44 rfl
    conv at e44 => rhs; whnf
    have e45 := hFm.old 45 rfl
    conv at e45 => rhs; whnf
    have e46 := hFm.old 46 rfl
    conv at e46 => rhs; whnf
    have e47 := hFm.old 47 rfl
    conv at e47 => rhs; whnf
    have e48 := hFm.old 48 rfl
    conv at e48 => rhs; whnf
    have e49 := hFm.old 49 rfl
    conv at e49 => rhs; whnf
    have e50 := hFm.old 50 rfl
    conv at e50 => rhs; whnf
    have e51 := hFm.old 51 rfl
    conv at e51 => rhs; whnf
    have e52 := hFm.old 52 rfl
    conv at e52 => rhs; whnf
    have e53 := hFm.old 53 rfl
    conv at e53 => rhs; whnf
    have e54 := hFm.old 54 rfl
    conv at e54 => rhs; whnf
    have e55 := hFm.old 55 rfl
    conv at e55 => rhs; whnf
    have e56 := hFm.old 56 rfl
    conv at e56 => rhs; whnf
    have e57 := hFm.old 57 rfl
    conv at e57 => rhs; whnf
    have e58 := hFm.old 58 rfl
    conv at e58 => rhs; whnf
    have e59 := hFm.old 59 rfl
    conv at e59 => rhs; whnf
    have e66 := hFm.old 66 rfl
    conv at e66 => rhs; whnf
    have e67 := hFm.old 67 rfl
    conv at e67 => rhs; whnf
    have e68 := hFm.old 68 rfl
    conv at e68 => rhs; whnf
    have e69 := hFm.old 69 rfl
    conv at e69 => rhs; whnf
    have e70 := hFm.old 70 rfl
    conv at e70 => rhs; whnf
    have e71 := hFm.old 71 rfl
    conv at e71 => rhs; whnf
    have e72 := hFm.old 72 rfl
    conv at e72 => rhs; whnf
    have e73 := hFm.old 73 rfl
    conv at e73 => rhs; whnf
    have e74 := hFm.old 74 rfl
    conv at e74 => rhs; whnf
    have e75 := hFm.old 75 rfl
    conv at e75 => rhs; whnf
    have e76 := hFm.old 76 rfl
    conv at e76 => rhs; whnf
    have e77 := hFm.old 77 rfl
    conv at e77 => rhs; whnf
    have e78 := hFm.old 78 rfl
    conv at e78 => rhs; whnf
    have e79 := hFm.old 79 rfl
    conv at e79 => rhs; whnf
    have e80 := hFm.old 80 rfl
    conv at e80 => rhs; whnf
    have e81 := hFm.old 81 rfl
    conv at e81 => rhs; whnf
    have e82 := hFm.old 82 rfl
    conv at e82 => rhs; whnf
    have e83 := hFm.old 83 rfl
    conv at e83 => rhs; whnf
    have e84 := hFm.old 84 rfl
    conv at e84 => rhs; whnf
    have e85 := hFm.old 85 rfl
    conv at e85 => rhs; whnf
    have e86 := hFm.old 86 rfl
    conv at e86 => rhs; whnf
    have e87 := hFm.old 87 rfl
    conv at e87 => rhs; whnf
    have e88 := hFm.old 88 rfl
    conv at e88 => rhs; whnf
    have e89 := hFm.old 89 rfl
    conv at e89 => rhs; whnf
    have e90 := hFm.old 90 rfl
    conv at e90 => rhs; whnf
    have e91 := hFm.old 91 rfl
    conv at e91 => rhs; whnf
    have e92 := hFm.old 92 rfl
    conv at e92 => rhs; whnf
    have e93 := hFm.old 93 rfl
    conv at e93 => rhs; whnf
    have e94 := hFm.old 94 rfl
    conv at e94 => rhs; whnf
    have e95 := hFm.old 95 rfl
    conv at e95 => rhs; whnf
    have e96 := hFm.old 96 rfl
    conv at e96 => rhs; whnf
    have e97 := hFm.old 97 rfl
    conv at e97 => rhs; whnf
    have e98 := hFm.old 98 rfl
    conv at e98 => rhs; whnf
    have e99 := hFm.old 99 rfl
    conv at e99 => rhs; whnf
    have e100 := hFm.old 100 rfl
    conv at e100 => rhs; whnf
    have e101 := hFm.old 101 rfl
    conv at e101 => rhs; whnf
    have e102 := hFm.old 102 rfl
    conv at e102 => rhs; whnf
    have e103 := hFm.old 103 rfl
    conv at e103 => rhs; whnf
    have e104 := hFm.old 104 rfl
    conv at e104 => rhs; whnf
    have e105 := hFm.old 105 rfl
    conv at e105 => rhs; whnf
    have e106 := hFm.old 106 rfl
    conv at e106 => rhs; whnf
    have e107 := hFm.old 107 rfl
    conv at e107 => rhs; whnf
    have e108 := hFm.old 108 rfl
    conv at e108 => rhs; whnf
    have e109 := hFm.old 109 rfl
    conv at e109 => rhs; whnf
    have e110 := hFm.old 110 rfl
    conv at e110 => rhs; whnf
    have e111 := hFm.old 111 rfl
    conv at e111 => rhs; whnf
    have e112 := hFm.old 112 rfl
    conv at e112 => rhs; whnf
    have e113 := hFm.old 113 rfl
    conv at e113 => rhs; whnf
    have e114 := hFm.old 114 rfl
    conv at e114 => rhs; whnf
    have e115 := hFm.old 115 rfl
    conv at e115 => rhs; whnf
    have e116 := hFm.old 116 rfl
    conv at e116 => rhs; whnf
    have e117 := hFm.old 117 rfl
    conv at e117 => rhs; whnf
    have e118 := hFm.old 118 rfl
    conv at e118 => rhs; whnf
    have e119 := hFm.old 119 rfl
    conv at e119 => rhs; whnf
    have e120 := hFm.old 120 rfl
    conv at e120 => rhs; whnf
    have e121 := hFm.old 121 rfl
    conv at e121 => rhs; whnf
    have e122 := hFm.old 122 rfl
    conv at e122 => rhs; whnf
    have e123 := hFm.old 123 rfl
    conv at e123 => rhs; whnf
    have e124 := hFm.old 124 rfl
    conv at e124 => rhs; whnf
    have e125 := hFm.old 125 rfl
    conv at e125 => rhs; whnf
    have e126 := hFm.old 126 rfl
    conv at e126 => rhs; whnf
    have e127 := hFm.old 127 rfl
    conv at e127 => rhs; whnf
    have e128 := hFm.old 128 rfl
    conv at e128 => rhs; whnf
    have e129 := hFm.old 129 rfl
    conv at e129 => rhs; whnf
    have e130 := hFm.old 130 rfl
    conv at e130 => rhs; whnf
    have e131 := hFm.old 131 rfl
    conv at e131 => rhs; whnf
    have e132 := hFm.old 132 rfl
    conv at e132 => rhs; whnf
    have e133 := hFm.old 133 rfl
    conv at e133 => rhs; whnf
    have e134 := hFm.old 134 rfl
    conv at e134 => rhs; whnf
    have e135 := hFm.old 135 rfl
    conv at e135 => rhs; whnf
    have e136 := hFm.old 136 rfl
    conv at e136 => rhs; whnf
    have e137 := hFm.old 137 rfl
    conv at e137 => rhs; whnf
    have e138 := hFm.old 138 rfl
    conv at e138 => rhs; whnf
    have e139 := hFm.old 139 rfl
    conv at e139 => rhs; whnf
    have e140 := hFm.old 140 rfl
    conv at e140 => rhs; whnf
    have e141 := hFm.old 141 rfl
    conv at e141 => rhs; whnf
    have e142 := hFm.old 142 rfl
    conv at e142 => rhs; whnf
    have e143 := hFm.old 143 rfl
    conv at e143 => rhs; whnf
    have e144 := hFm.old 144 rfl
    conv at e144 => rhs; whnf
    have e145 := hFm.old 145 rfl
    conv at e145 => rhs; whnf
    have e146 := hFm.old 146 rfl
    conv at e146 => rhs; whnf
    have e147 := hFm.old 147 rfl
    conv at e147 => rhs; whnf
    have e148 := hFm.old 148 rfl
    conv at e148 => rhs; whnf
    have e149 := hFm.old 149 rfl
    conv at e149 => rhs; whnf
    have e150 := hFm.old 150 rfl
    conv at e150 => rhs; whnf
    have e151 := hFm.old 151 rfl
    conv at e151 => rhs; whnf
    have e152 := hFm.old 152 rfl
    conv at e152 => rhs; whnf
    have e153 := hFm.old 153 rfl
    conv at e153 => rhs; whnf
    have e154 := hFm.old 154 rfl
    conv at e154 => rhs; whnf
    have e155 := hFm.old 155 rfl
    conv at e155 => rhs; whnf
    have e156 := hFm.old 156 rfl
    conv at e156 => rhs; whnf
    have e157 := hFm.old 157 rfl
    conv at e157 => rhs; whnf
    have e158 := hFm.old 158 rfl
    conv at e158 => rhs; whnf
    have e159 := hFm.old 159 rfl
    conv at e159 => rhs; whnf
    have e160 := hFm.old 160 rfl
    conv at e160 => rhs; whnf
    have e161 := hFm.old 161 rfl
    conv at e161 => rhs; whnf
    have e162 := hFm.old 162 rfl
    conv at e162 => rhs; whnf
    have e163 := hFm.old 163 rfl
    conv at e163 => rhs; whnf
    have e164 := hFm.old 164 rfl
    conv at e164 => rhs; whnf
    have e165 := hFm.old 165 rfl
    conv at e165 => rhs; whnf
    have e166 := hFm.old 166 rfl
    conv at e166 => rhs; whnf
    have e167 := hFm.old 167 rfl
    conv at e167 => rhs; whnf
    have e168 := hFm.old 168 rfl
    conv at e168 => rhs; whnf
    have e169 := hFm.old 169 rfl
    conv at e169 => rhs; whnf
    have e170 := hFm.old 170 rfl
    conv at e170 => rhs; whnf
    have e171 := hFm.old 171 rfl
    conv at e171 => rhs; whnf
    have e172 := hFm.old 172 rfl
    conv at e172 => rhs; whnf
    have e173 := hFm.old 173 rfl
    conv at e173 => rhs; whnf
    have e174 := hFm.old 174 rfl
    conv at e174 => rhs; whnf
    have e175 := hFm.old 175 rfl
    conv at e175 => rhs; whnf
    have e176 := hFm.old 176 rfl
    conv at e176 => rhs; whnf
    have e177 := hFm.old 177 rfl
    conv at e177 => rhs; whnf
    have e178 := hFm.old 178 rfl
    conv at e178 => rhs; whnf
    have e179 := hFm.old 179 rfl
    conv at e179 => rhs; whnf
    have e180 := hFm.old 180 rfl
    conv at e180 => rhs; whnf
    have e181 := hFm.old 181 rfl
    conv at e181 => rhs; whnf
    have e182 := hFm.old 182 rfl
    conv at e182 => rhs; whnf
    have e183 := hFm.old 183 rfl
    conv at e183 => rhs; whnf
    have e184 := hFm.old 184 rfl
    conv at e184 => rhs; whnf
    have e185 := hFm.old 185 rfl
    conv at e185 => rhs; whnf
    have e186 := hFm.old 186 rfl
    conv at e186 => rhs; whnf
    have e187 := hFm.old 187 rfl
    conv at e187 => rhs; whnf
    have e188 := hFm.old 188 rfl
    conv at e188 => rhs; whnf
    have e189 := hFm.old 189 rfl
    conv at e189 => rhs; whnf
    have e190 := hFm.old 190 rfl
    conv at e190 => rhs; whnf
    have e191 := hFm.old 191 rfl
    conv at e191 => rhs; whnf
    have e192 := hFm.old 192 rfl
    conv at e192 => rhs; whnf
    have e193 := hFm.old 193 rfl
    conv at e193 => rhs; whnf
    have e194 := hFm.old 194 rfl
    conv at e194 => rhs; whnf
    have e195 := hFm.old 195 rfl
    conv at e195 => rhs; whnf
    have e196 := hFm.old 196 rfl
    conv at e196 => rhs; whnf
    have e197 := hFm.old 197 rfl
    conv at e197 => rhs; whnf
    have e198 := hFm.old 198 rfl
    conv at e198 => rhs; whnf
    have e199 := hFm.old 199 rfl
    conv at e199 => rhs; whnf
    have e200 := hFm.old 200 rfl
    conv at e200 => rhs; whnf
    have hsz := hFm.size
    have hdf := hFm.defers
    clear hd hFm
    obtain ⟨t, df⟩ := a
    simp only at hsz hdf
    subst hdf
    obtain ⟨x, hx⟩ : ∃ x : Nat → Value, ∀ i, t.getD i undef = x i := ⟨fun i => t.getD i undef, fun _ => rfl⟩
    have h19 := (hx 19).symm.trans e19
    have h20 := (hx 20).symm.trans e20
    have h0 := (hx 0).symm.trans e0
    have h1 := (hx 1).symm.trans e1
    have h2 := (hx 2).symm.trans e2
    have h3 := (hx 3).symm.trans e3
    have h4 := (hx 4).symm.trans e4
    have h5 := (hx 5).symm.trans e5
    have h6 := (hx 6).symm.trans e6
    have h7 := (hx 7).symm.trans e7
    have h8 := (hx 8).symm.trans e8
    have h9 := (hx 9).symm.trans e9
    have h10 := (hx 10).symm.trans e10
    have h11 := (hx 11).symm.trans e11
    have h12 := (hx 12).symm.trans e12
    have h13 := (hx 13).symm.trans e13
    have h14 := (hx 14).symm.trans e14
    have h15 := (hx 15).symm.trans e15
    have h16 := (hx 16).symm.trans e16
    have h17 := (hx 17).symm.trans e17
    have h18 := (hx 18).symm.trans e18
    have h21 := (hx 21).symm.trans e21
    have h22 := (hx 22).symm.trans e22
    have h23 := (hx 23).symm.trans e23
    have h24 := (hx 24).symm.trans e24
    have h25 := (hx 25).symm.trans e25
    have h26 := (hx 26).symm.trans e26
    have h27 := (hx 27).symm.trans e27
    have h28 := (hx 28).symm.trans e28
    have h29 := (hx 29).symm.trans e29
    have h30 := (hx 30).symm.trans e30
    have h31 := (hx 31).symm.trans e31
    have h32 := (hx 32).symm.trans e32
    have h33 := (hx 33).symm.trans e33
    have h34 := (hx 34).symm.trans e34
    have h35 := (hx 35).symm.trans e35
    have h36 := (hx 36).symm.trans e36
    have h37 := (hx 37).symm.trans e37
    have h38 := (hx 38).symm.trans e38
    have h39 := (hx 39).symm.trans e39
    have h40 := (hx 40).symm.trans e40
    have h41 := (hx 41).symm.trans e41
    have h42 := (hx 42).symm.trans e42
    have h43 := (hx 43).symm.trans e43
    have h44 := (hx 44).symm.trans e44
    have h45 := (hx 45).symm.trans e45
    have h46 := (hx 46).symm.trans e46
    have h47 := (hx 47).symm.trans e47
    have h48 := (hx 48).symm.trans e48
    have h49 := (hx 49).symm.trans e49
    have h50 := (hx 50).symm.trans e50
    have h51 := (hx 51).symm.trans e51
    have h52 := (hx 52).symm.trans e52
    have h53 := (hx 53).symm.trans e53
    have h54 := (hx 54).symm.trans e54
    have h55 := (hx 55).symm.trans e55
    have h56 := (hx 56).symm.trans e56
    have h57 := (hx 57).symm.trans e57
    have h58 := (hx 58).symm.trans e58
    have h59 := (hx 59).symm.trans e59
    have h66 := (hx 66).symm.trans e66
    have h67 := (hx 67).symm.trans e67
    have h68 := (hx 68).symm.trans e68
    have h69 := (hx 69).symm.trans e69
    have h70 := (hx 70).symm.trans e70
    have h71 := (hx 71).symm.trans e71
    have h72 := (hx 72).symm.trans e72
    have h73 := (hx 73).symm.trans e73
    have h74 := (hx 74).symm.trans e74
    have h75 := (hx 75).symm.trans e75
    have h76 := (hx 76).symm.trans e76
    have h77 := (hx 77).symm.trans e77
    have h78 := (hx 78).symm.trans e78
    have h79 := (hx 79).symm.trans e79
    have h80 := (hx 80).symm.trans e80
    have h81 := (hx 81).symm.trans e81
    have h82 := (hx 82).symm.trans e82
    have h83 := (hx 83).symm.trans e83
    have h84 := (hx 84).symm.trans e84
    have h85 := (hx 85).symm.trans e85
    have h86 := (hx 86).symm.trans e86
    have h87 := (hx 87).symm.trans e87
    have h88 := (hx 88).symm.trans e88
    have h89 := (hx 89).symm.trans e89
    have h90 := (hx 90).symm.trans e90
    have h91 := (hx 91).symm.trans e91
    have h92 := (hx 92).symm.trans e92
    have h93 := (hx 93).symm.trans e93
    have h94 := (hx 94).symm.trans e94
    have h95 := (hx 95).symm.trans e95
    have h96 := (hx 96).symm.trans e96
    have h97 := (hx 97).symm.trans e97
    have h98 := (hx 98).symm.trans e98
    have h99 := (hx 99).symm.trans e99
    have h100 := (hx 100).symm.trans e100
    have h101 := (hx 101).symm.trans e101
    have h102 := (hx 102).symm.trans e102
    have h103 := (hx 103).symm.trans e103
    have h104 := (hx 104).symm.trans e104
    have h105 := (hx 105).symm.trans e105
    have h106 := (hx 106).symm.trans e106
    have h107 := (hx 107).symm.trans e107
    have h108 := (hx 108).symm.trans e108
    have h109 := (hx 109).symm.trans e109
    have h110 := (hx 110).symm.trans e110
    have h111 := (hx 111).symm.trans e111
    have h112 := (hx 112).symm.trans e112
    have h113 := (hx 113).symm.trans e113
    have h114 := (hx 114).symm.trans e114
    have h115 := (hx 115).symm.trans e115
    have h116 := (hx 116).symm.trans e116
    have h117 := (hx 117).symm.trans e117
    have h118 := (hx 118).symm.trans e118
    have h119 := (hx 119).symm.trans e119
    have h120 := (hx 120).symm.trans e120
    have h121 := (hx 121).symm.trans e121
    have h122 := (hx 122).symm.trans e122
    have h123 := (hx 123).symm.trans e123
    have h124 := (hx 124).symm.trans e124
    have h125 := (hx 125).symm.trans e125
    have h126 := (hx 126).symm.trans e126
    have h127 := (hx 127).symm.trans e127
    have h128 := (hx 128).symm.trans e128
    have h129 := (hx 129).symm.trans e129
    have h130 := (hx 130).symm.trans e130
    have h131 := (hx 131).symm.trans e131
    have h132 := (hx 132).symm.trans e132
    have h133 := (hx 133).symm.trans e133
    have h134 := (hx 134).symm.trans e134
    have h135 := (hx 135).symm.trans e135
    have h136 := (hx 136).symm.trans e136
    have h137 := (hx 137).symm.trans e137
    have h138 := (hx 138).symm.trans e138
    have h139 := (hx 139).symm.trans e139
    have h140 := (hx 140).symm.trans e140
    have h141 := (hx 141).symm.trans e141
    have h142 := (hx 142).symm.trans e142
    have h143 := (hx 143).symm.trans e143
    have h144 := (hx 144).symm.trans e144
    have h145 := (hx 145).symm.trans e145
    have h146 := (hx 146).symm.trans e146
    have h147 := (hx 147).symm.trans e147
    have h148 := (hx 148).symm.trans e148
    have h149 := (hx 149).symm.trans e149
    have h150 := (hx 150).symm.trans e150
    have h151 := (hx 151).symm.trans e151
    have h152 := (hx 152).symm.trans e152
    have h153 := (hx 153).symm.trans e153
    have h154 := (hx 154).symm.trans e154
    have h155 := (hx 155).symm.trans e155
    have h156 := (hx 156).symm.trans e156
    have h157 := (hx 157).symm.trans e157
    have h158 := (hx 158).symm.trans e158
    have h159 := (hx 159).symm.trans e159
    have h160 := (hx 160).symm.trans e160
    have h161 := (hx 161).symm.trans e161
    have h162 := (hx 162).symm.trans e162
    have h163 := (hx 163).symm.trans e163
    have h164 := (hx 164).symm.trans e164
    have h165 := (hx 165).symm.trans e165
    have h166 := (hx 166).symm.trans e166
    have h167 := (hx 167).symm.trans e167
    have h168 := (hx 168).symm.trans e168
    have h169 := (hx 169).symm.trans e169
    have h170 := (hx 170).symm.trans e170
    have h171 := (hx 171).symm.trans e171
    have h172 := (hx 172).symm.trans e172
    have h173 := (hx 173).symm.trans e173
    have h174 := (hx 174).symm.trans e174
    have h175 := (hx 175).symm.trans e175
    have h176 := (hx 176).symm.trans e176
    have h177 := (hx 177).symm.trans e177
    have h178 := (hx 178).symm.trans e178
    have h179 := (hx 179).symm.trans e179
    have h180 := (hx 180).symm.trans e180
    have h181 := (hx 181).symm.trans e181
    have h182 := (hx 182).symm.trans e182
    have h183 := (hx 183).symm.trans e183
    have h184 := (hx 184).symm.trans e184
    have h185 := (hx 185).symm.trans e185
    have h186 := (hx 186).symm.trans e186
    have h187 := (hx 187).symm.trans e187
    have h188 := (hx 188).symm.trans e188
    have h189 := (hx 189).symm.trans e189
    have h190 := (hx 190).symm.trans e190
    have h191 := (hx 191).symm.trans e191
    have h192 := (hx 192).symm.trans e192
    have h193 := (hx 193).symm.trans e193
    have h194 := (hx 194).symm.trans e194
    have h195 := (hx 195).symm.trans e195
    have h196 := (hx 196).symm.trans e196
    have h197 := (hx 197).symm.trans e197
    have h198 := (hx 198).symm.trans e198
    have h199 := (hx 199).symm.trans e199
    have h200 := (hx 200).symm.trans e200
    have ht' : t = #[x 0, x 1, x 2, x 3, x 4, x 5, x 6, x 7, x 8, x 9, x 10, x 11, x 12, x 13, x 14, x 15, x 16, x 17, x 18, x 19, x 20, x 21, x 22, x 23, x 24, x 25, x 26, x 27, x 28, x 29, x 30, x 31, x 32, x 33, x 34, x 35, x 36, x 37, x 38, x 39, x 40, x 41, x 42, x 43, x 44, x 45, x 46, x 47, x 48, x 49, x 50, x 51, x 52, x 53, x 54, x 55, x 56, x 57, x 58, x 59, x 60, x 61, x 62, x 63, x 64, x 65, x 66, x 67, x 68, x 69, x 70, x 71, x 72, x 73, x 74, x 75, x 76, x 77, x 78, x 79, x 80, x 81, x 82, x 83, x 84, x 85, x 86, x 87, x 88, x 89, x 90, x 91, x 92, x 93, x 94, x 95, x 96, x 97, x 98, x 99, x 100, x 101, x 102, x 103, x 104, x 105, x 106, x 107, x 108, x 109, x 110, x 111, x 112, x 113, x 114, x 115, x 116, x 117, x 118, x 119, x 120, x 121, x 122, x 123, x 124, x 125, x 126, x 127, x 128, x 129, x 130, x 131, x 132, x 133, x 134, x 135, x 136, x 137, x 138, x 139, x 140, x 141, x 142, x 143, x 144, x 145, x 146, x 147, x 148, x 149, x 150, x 151, x 152, x 153, x 154, x 155, x 156, x 157, x 158, x 159, x 160, x 161, x 162, x 163, x 164, x 165, x 166, x 167, x 168, x 169, x 170, x 171, x 172, x 173, x 174, x 175, x 176, x 177, x 178, x 179, x 180, x 181, x 182, x 183, x 184, x 185, x 186, x 187, x 188, x 189, x 190, x 191, x 192, x 193, x 194, x 195, x 196, x 197, x 198, x 199, x 200] := frame_lit t 201 hsz x hx
    clear hx hsz hz e19 e20 e0 e1 e2 e3 e4 e5 e6 e7 e8 e9 e10 e11 e12 e13 e14 e15 e16 e17 e18 e21 e22 e23 e24 e25 e26 e27 e28 e29 e30 e31 e32 e33 e34 e35 e36 e37 e38 e39 e40 e41 e42 e43 e44 e45 e46 e47 e48 e49 e50 e51 e52 e53 e54 e55 e56 e57 e58 e59 e66 e67 e68 e69 e70 e71 e72 e73 e74 e75 e76 e77 e78 e79 e80 e81 e82 e83 e84 e85 e86 e87 e88 e89 e90 e91 e92 e93 e94 e95 e96 e97 e98 e99 e100 e101 e102 e103 e104 e105 e106 e107 e108 e109 e110 e111 e112 e113 e114 e115 e116 e117 e118 e119 e120 e121 e122 e123 e124 e125 e126 e127 e128 e129 e130 e131 e132 e133 e134 e135 e136 e137 e138 e139 e140 e141 e142 e143 e144 e145 e146 e147 e148 e149 e150 e151 e152 e153 e154 e155 e156 e157 e158 e159 e160 e161 e162 e163 e164 e165 e166 e167 e168 e169 e170 e171 e172 e173 e174 e175 e176 e177 e178 e179 e180 e181 e182 e183 e184 e185 e186 e187 e188 e189 e190 e191 e192 e193 e194 e195 e196 e197 e198 e199 e200
    subst ht'
    (try dsimp only)
    rw [h19, h20, h0, h1, h2, h3, h4, h5, h6, h7, h8, h9, h10, h11, h12, h13, h14, h15, h16, h17, h18, h21, h22, h23, h24, h25, h26, h27, h28, h29, h30, h31, h32, h33, h34, h35, h36, h37, h38, h39, h40, h41, h42, h43, h44, h45, h46, h47, h48, h49, h50, h51, h52, h53, h54, h55, h56, h57, h58, h59, h66, h67, h68, h69, h70, h71, h72, h73, h74, h75, h76, h77, h78, h79, h80, h81, h82, h83, h84, h85, h86, h87, h88, h89, h90, h91, h92, h93, h94, h95, h96, h97, h98, h99, h100, h101, h102, h103, h104, h105, h106, h107, h108, h109, h110, h111, h112, h113, h114, h115, h116, h117, h118, h119, h120, h121, h122, h123, h124, h125, h126, h127, h128, h129, h130, h131, h132, h133, h134, h135, h136, h137, h138, h139, h140, h141, h142, h143, h144, h145, h146, h147, h148, h149, h150, h151, h152, h153, h154, h155, h156, h157, h158, h159, h160, h161, h162, h163, h164, h165, h166, h167, h168, h169, h170, h171, h172, h173, h174, h175, h176, h177, h178, h179, h180, h181, h182, h183, h184, h185, h186, h187, h188, h189, h190, h191, h192, h193, h194, h195, h196, h197, h198, h199, h200]
    clear h19 h20 h0 h1 h2 h3 h4 h5 h6 h7 h8 h9 h10 h11 h12 h13 h14 h15 h16 h17 h18 h21 h22 h23 h24 h25 h26 h27 h28 h29 h30 h31 h32 h33 h34 h35 h36 h37 h38 h39 h40 h41 h42 h43 h44 h45 h46 h47 h48 h49 h50 h51 h52 h53 h54 h55 h56 h57 h58 h59 h66 h67 h68 h69 h70 h71 h72 h73 h74 h75 h76 h77 h78 h79 h80 h81 h82 h83 h84 h85 h86 h87 h88 h89 h90 h91 h92 h93 h94 h95 h96 h97 h98 h99 h100 h101 h102 h103 h104 h105 h106 h107 h108 h109 h110 h111 h112 h113 h114 h115 h116 h117 h118 h119 h120 h121 h122 h123 h124 h125 h126 h127 h128 h129 h130 h131 h132 h133 h134 h135 h136 h137 h138 h139 h140 h141 h142 h143 h144 h145 h146 h147 h148 h149 h150 h151 h152 h153 h154 h155 h156 h157 h158 h159 h160 h161 h162 h163 h164 h165 h166 h167 h168 h169 h170 h171 h172 h173 h174 h175 h176 h177 h178 h179 h180 h181 h182 h183 h184 h185 h186 h187 h188 h189 h190 h191 h192 h193 h194 h195 h196 h197 h198 h199 h200
    rw [undef_fold]
    have hb := from_drew hS
    replace hM := hM.later hb
    clear hS hb hD hXb hYb hrx hry HTx HTy
    have qD := hM.hD.at
    unfold confBox at qD
    have l0 : (0 : Int) ≤ (tx.length : Int) - 1 := by omega
    have l1 : (tx.length : Int) - 1 ≤ (tx.length : Int) := by omega
    have l2 : ((tx.length : Int) - 1).toNat = tx.length - 1 := by omega
    go_upto_region 15 with fail
    have hAb : Blk ((w7.alloc (.cells #[.string ⟨#[]⟩, .string ⟨#[]⟩, .string ⟨#[]⟩, .int .i64 0] 45)).alloc (.cells #[.string ⟨#[]⟩, .string ⟨#[]⟩, .string ⟨#[]⟩, .int .i64 0] 45)) w7.heap.size 45 #[.string ⟨#[]⟩, .string ⟨#[]⟩, .string ⟨#[]⟩, .int .i64 0] := (Blk.new w7 _ _).alloc _
    have hBb : Blk ((w7.alloc (.cells #[.string ⟨#[]⟩, .string ⟨#[]⟩, .string ⟨#[]⟩, .int .i64 0] 45)).alloc (.cells #[.string ⟨#[]⟩, .string ⟨#[]⟩, .string ⟨#[]⟩, .int .i64 0] 45)) (w7.heap.size + 1) 45 #[.string ⟨#[]⟩, .string ⟨#[]⟩, .string ⟨#[]⟩, .int .i64 0] := Blk.newAt _ _ (by simp)
    have hb : Below w7.heap.size w7 ((w7.alloc (.cells #[.string ⟨#[]⟩, .string ⟨#[]⟩, .string ⟨#[]⟩, .int .i64 0] 45)).alloc (.cells #[.string ⟨#[]⟩, .string ⟨#[]⟩, .string ⟨#[]⟩, .int .i64 0] 45)) := (alloc_below w7 _).alloc (by simp) _
    have hws := hM.hB.size
    have hdl := hM.hD.lt
    have hxl := hM.hX.lt
    have hdn2 := hM.hrd.ltR
    have hxn := hM.hrx.ltT
    have hB := hM.hB.trans (hb.mono hM.hB.size)
    have hD := hM.hD.later hb
    have hrd := hM.hrd.later hb
    have hX := hM.hX.later hb
    have hrx := hM.hrx.later hb
    clear hb hM qD l0 l1 l2
    generalize (w7.alloc (.cells #[.string ⟨#[]⟩, .string ⟨#[]⟩, .string ⟨#[]⟩, .int .i64 0] 45)).alloc (.cells #[.string ⟨#[]⟩, .string ⟨#[]⟩, .string ⟨#[]⟩, .int .i64 0] 45) = w8 at *
    generalize w7.heap.size = ab at *
    have lq : (tx.take (tx.length - 1)).length ≤ 1048576 := by rw [List.length_take]; omega
    generalize tx.take (tx.length - 1) = q at *
    go_wp2_with fail
    refine (within10_any wh 10 _ (by omega) (by omega)).mono ?_
    rintro e wl ⟨rfl, rfl⟩
    have z0 := Int.emod_nonneg wh (show (10 : Int) ≠ 0 by omega)
    have z1 := Int.emod_lt_of_pos wh (show (0 : Int) < 10 by omega)
    generalize wh % 10 = z at *
    have l0 : ([] : List UInt8).length ≤ 1048576 := by decide
    have HSm := Lib.hid (fun W (aa : Option Addr) (ac : Nat) (h1 : RowT W aa X1.E) (h2 : RowT W a17 X1.E) => rSame5_any X1 X1 aa a17 ac c17 W h1 h2)
    have fA := hAb.frozen
    have qA := hAb.at
    have fB := hBb.frozen
    have qB := hBb.at
    have qD := hD.at
    unfold confBox at qD
    rcases HZ.out with rfl | rfl
    · have HP0 := Lib.hid (fun (W : World) (hb : Bnds W) (hr : Row W da d.P) => show Calls Tryd.prog 21 #[.agg #[.int .i64 d.N, .int .i64 d.Pi, .int .i64 d.E, .int .i64 d.G, .int .i64 d.F, .slice da d.P.length dc], .int .i64 r, .int .i64 X1.S, .agg #[.string ⟨q.toArray⟩, .string ⟨#[]⟩, .string ⟨q.toArray⟩, .int .i64 1], .agg #[.string ⟨#[]⟩, .string ⟨#[]⟩, .string ⟨#[]⟩, .int .i64 (d.N - 1)]] W (RightRet (zeroF, false) W) from by
        have ht : takeA d r X1.S ⟨q, [], q, 1⟩ ⟨[], [], [], d.N - 1⟩ = (zeroF, false) := (HT10.out 8 (by decide)).trans (by simp [ruleP])
        have h := aPick_any d da dc r X1.S ⟨q, [], q, 1⟩ ⟨[], [], [], d.N - 1⟩ W hb hok hr (by omega) (by omega) lq l0 lq l0
        rw [ht] at h
        exact h)
      go_upto_region 41 with fail
      clear fA qA fB qB qD
      have e1 : Blk (w8.set4 ab (.string ⟨q.toArray⟩) (.string ⟨#[]⟩) (.string ⟨q.toArray⟩) (.int .i64 1)) ab 45 #[.string ⟨q.toArray⟩, .string ⟨#[]⟩, .string ⟨q.toArray⟩, .int .i64 1] := blk_set4 hAb _ _ _ _
      have e2 := blk_far4 hBb (show ab + 1 ≠ ab by omega) (.string ⟨q.toArray⟩) (.string ⟨#[]⟩) (.string ⟨q.toArray⟩) (.int .i64 1)
      have e3 := blk_set4 e2 (.string ⟨#[]⟩) (.string ⟨#[]⟩) (.string ⟨#[]⟩) (.int .i64 (d.N - 1))
      have e4 := blk_far4 e1 (show ab ≠ ab + 1 by omega) (.string ⟨#[]⟩) (.string ⟨#[]⟩) (.string ⟨#[]⟩) (.int .i64 (d.N - 1))
      have e5 := blk_far4 (blk_far4 hD (show db ≠ ab by omega) (.string ⟨q.toArray⟩) (.string ⟨#[]⟩) (.string ⟨q.toArray⟩) (.int .i64 1)) (show db ≠ ab + 1 by omega) (.string ⟨#[]⟩) (.string ⟨#[]⟩) (.string ⟨#[]⟩) (.int .i64 (d.N - 1))
      have e6 := blk_far4 (blk_far4 hX (show b17 ≠ ab by omega) (.string ⟨q.toArray⟩) (.string ⟨#[]⟩) (.string ⟨q.toArray⟩) (.int .i64 1)) (show b17 ≠ ab + 1 by omega) (.string ⟨#[]⟩) (.string ⟨#[]⟩) (.string ⟨#[]⟩) (.int .i64 (d.N - 1))
      have e7 := row_far4 (row_far4 hrd ab (hdn2.imp id fun q y e => by have := q y e; omega) (.string ⟨q.toArray⟩) (.string ⟨#[]⟩) (.string ⟨q.toArray⟩) (.int .i64 1)) (ab + 1) (hdn2.imp id fun q y e => by have := q y e; omega) (.string ⟨#[]⟩) (.string ⟨#[]⟩) (.string ⟨#[]⟩) (.int .i64 (d.N - 1))
      have e8 := below_set4 (below_set4 hB hws (.string ⟨q.toArray⟩) (.string ⟨#[]⟩) (.string ⟨q.toArray⟩) (.int .i64 1)) (show w.heap.size ≤ ab + 1 by omega) (.string ⟨#[]⟩) (.string ⟨#[]⟩) (.string ⟨#[]⟩) (.int .i64 (d.N - 1))
      have e9 := rowT_far4 (rowT_far4 hrx ab (hxn.imp id fun q y e => by have := q y e; omega) (.string ⟨q.toArray⟩) (.string ⟨#[]⟩) (.string ⟨q.toArray⟩) (.int .i64 1)) (ab + 1) (hxn.imp id fun q y e => by have := q y e; omega) (.string ⟨#[]⟩) (.string ⟨#[]⟩) (.string ⟨#[]⟩) (.int .i64 (d.N - 1))
      clear hAb hBb hD hX hrd hB hrx e1 e2
      unfold World.set4 at e3 e4 e5 e6 e7 e8 e9
      generalize (((((((w8.setCell ⟨ab, 0, none⟩ (.string ⟨q.toArray⟩)).setCell ⟨ab, 1, none⟩ (.string ⟨#[]⟩)).setCell ⟨ab, 2, none⟩ (.string ⟨q.toArray⟩)).setCell ⟨ab, 3, none⟩ (.int .i64 1)).setCell ⟨ab + 1, 0, none⟩ (.string ⟨#[]⟩)).setCell ⟨ab + 1, 1, none⟩ (.string ⟨#[]⟩)).setCell ⟨ab + 1, 2, none⟩ (.string ⟨#[]⟩)).setCell ⟨ab + 1, 3, none⟩ (.int .i64 (d.N - 1)) = w9 at *
      have hB := e8
      have hD := e5
      have hrd := e7
      have hX := e6
      have hAb := e4
      have hBb := e3
      have hrx := e9
      clear e3 e4 e5 e6 e7 e8 e9
      have qD := hD.at
      unfold confBox at qD
      have qX := hX.at
      unfold frBox at qX
      have qA := hAb.at
      have qB := hBb.at
      go_wp2_with fail
      refine (HP0.out _ (hbd.later hB) hrd).mono ?_
      rintro e w10 ⟨pa, pc, rfl, hrp, -, hb⟩
      replace hB := hB.trans (hb.mono hB.size)
      replace hX := hX.later hb
      replace hrx := hrx.later hb
      clear hb qD qX qA qB
      go_upto_region 42 with fail
      have hb := alloc_below w10 (.cells #[.int .i64 zeroF.K, .int .i64 zeroF.R, .int .i64 zeroF.S, .int .i64 zeroF.P.K, .int .i64 zeroF.P.V, .slice pa zeroF.E.length pc] 29)
      have hE : Blk (w10.alloc (.cells #[.int .i64 zeroF.K, .int .i64 zeroF.R, .int .i64 zeroF.S, .int .i64 zeroF.P.K, .int .i64 zeroF.P.V, .slice pa zeroF.E.length pc] 29)) w10.heap.size 29 (frBox zeroF pa pc) := Blk.new w10 _ _
      replace hB := hB.trans (hb.mono hB.size)
      replace hX := hX.later hb
      replace hrx := hrx.later hb
      replace hrp := hrp.later hb
      clear hb
      generalize w10.alloc (.cells #[.int .i64 zeroF.K, .int .i64 zeroF.R, .int .i64 zeroF.S, .int .i64 zeroF.P.K, .int .i64 zeroF.P.V, .slice pa zeroF.E.length pc] 29) = w11 at *
      generalize w10.heap.size = eb at *
      have qE : ∀ i, w11.cell? ⟨eb, i, none⟩ = (#[.int .i64 0, .int .i64 0, .int .i64 0, .int .i64 0, .int .i64 0, .slice pa 0 pc] : Array Value)[i]? := hE.at
      go_wp2
      go_ret
      exact ⟨rfl, hB⟩
    · have HP0 := Lib.hid (fun (W : World) (hb : Bnds W) (hr : Row W da d.P) => show Calls Tryd.prog 21 #[.agg #[.int .i64 d.N, .int .i64 d.Pi, .int .i64 d.E, .int .i64 d.G, .int .i64 d.F, .slice da d.P.length dc], .int .i64 r, .int .i64 X1.S, .agg #[.string ⟨#[]⟩, .string ⟨#[]⟩, .string ⟨tx.toArray⟩, .int .i64 0], .agg #[.string ⟨#[]⟩, .string ⟨#[]⟩, .string ⟨tx.toArray⟩, .int .i64 0]] W (RightRet (zeroF, false) W) from by
        have ht : takeA d r X1.S ⟨[], [], tx, 0⟩ ⟨[], [], tx, 0⟩ = (zeroF, false) := (HT10.out 9 (by decide)).trans (by simp [ruleP])
        have h := aPick_any d da dc r X1.S ⟨[], [], tx, 0⟩ ⟨[], [], tx, 0⟩ W hb hok hr (by omega) (by omega) lx lx l0 l0
        rw [ht] at h
        exact h)
      go_upto_region 41 with fail
      clear fA qA fB qB qD
      have e1 : Blk (w8.set4 ab (.string ⟨#[]⟩) (.string ⟨#[]⟩) (.string ⟨tx.toArray⟩) (.int .i64 0)) ab 45 #[.string ⟨#[]⟩, .string ⟨#[]⟩, .string ⟨tx.toArray⟩, .int .i64 0] := blk_set4 hAb _ _ _ _
      have e2 := blk_far4 hBb (show ab + 1 ≠ ab by omega) (.string ⟨#[]⟩) (.string ⟨#[]⟩) (.string ⟨tx.toArray⟩) (.int .i64 0)
      have e3 := blk_set4 e2 (.string ⟨#[]⟩) (.string ⟨#[]⟩) (.string ⟨tx.toArray⟩) (.int .i64 0)
      have e4 := blk_far4 e1 (show ab ≠ ab + 1 by omega) (.string ⟨#[]⟩) (.string ⟨#[]⟩) (.string ⟨tx.toArray⟩) (.int .i64 0)
      have e5 := blk_far4 (blk_far4 hD (show db ≠ ab by omega) (.string ⟨#[]⟩) (.string ⟨#[]⟩) (.string ⟨tx.toArray⟩) (.int .i64 0)) (show db ≠ ab + 1 by omega) (.string ⟨#[]⟩) (.string ⟨#[]⟩) (.string ⟨tx.toArray⟩) (.int .i64 0)
      have e6 := blk_far4 (blk_far4 hX (show b17 ≠ ab by omega) (.string ⟨#[]⟩) (.string ⟨#[]⟩) (.string ⟨tx.toArray⟩) (.int .i64 0)) (show b17 ≠ ab + 1 by omega) (.string ⟨#[]⟩) (.string ⟨#[]⟩) (.string ⟨tx.toArray⟩) (.int .i64 0)
      have e7 := row_far4 (row_far4 hrd ab (hdn2.imp id fun q y e => by have := q y e; omega) (.string ⟨#[]⟩) (.string ⟨#[]⟩) (.string ⟨tx.toArray⟩) (.int .i64 0)) (ab + 1) (hdn2.imp id fun q y e => by have := q y e; omega) (.string ⟨#[]⟩) (.string ⟨#[]⟩) (.string ⟨tx.toArray⟩) (.int .i64 0)
      have e8 := below_set4 (below_set4 hB hws (.string ⟨#[]⟩) (.string ⟨#[]⟩) (.string ⟨tx.toArray⟩) (.int .i64 0)) (show w.heap.size ≤ ab + 1 by omega) (.string ⟨#[]⟩) (.string ⟨#[]⟩) (.string ⟨tx.toArray⟩) (.int .i64 0)
      have e9 := rowT_far4 (rowT_far4 hrx ab (hxn.imp id fun q y e => by have := q y e; omega) (.string ⟨#[]⟩) (.string ⟨#[]⟩) (.string ⟨tx.toArray⟩) (.int .i64 0)) (ab + 1) (hxn.imp id fun q y e => by have := q y e; omega) (.string ⟨#[]⟩) (.string ⟨#[]⟩) (.string ⟨tx.toArray⟩) (.int .i64 0)
      clear hAb hBb hD hX hrd hB hrx e1 e2
      unfold World.set4 at e3 e4 e5 e6 e7 e8 e9
      generalize (((((((w8.setCell ⟨ab, 0, none⟩ (.string ⟨#[]⟩)).setCell ⟨ab, 1, none⟩ (.string ⟨#[]⟩)).setCell ⟨ab, 2, none⟩ (.string ⟨tx.toArray⟩)).setCell ⟨ab, 3, none⟩ (.int .i64 0)).setCell ⟨ab + 1, 0, none⟩ (.string ⟨#[]⟩)).setCell ⟨ab + 1, 1, none⟩ (.string ⟨#[]⟩)).setCell ⟨ab + 1, 2, none⟩ (.string ⟨tx.toArray⟩)).setCell ⟨ab + 1, 3, none⟩ (.int .i64 0) = w9 at *
      have hB := e8
      have hD := e5
      have hrd := e7
      have hX := e6
      have hAb := e4
      have hBb := e3
      have hrx := e9
      clear e3 e4 e5 e6 e7 e8 e9
      have qD := hD.at
      unfold confBox at qD
      have qX := hX.at
      unfold frBox at qX
      have qA := hAb.at
      have qB := hBb.at
      go_wp2_with fail
      refine (HP0.out _ (hbd.later hB) hrd).mono ?_
      rintro e w10 ⟨pa, pc, rfl, hrp, -, hb⟩
      replace hB := hB.trans (hb.mono hB.size)
      replace hX := hX.later hb
      replace hrx := hrx.later hb
      clear hb qD qX qA qB
      go_upto_region 42 with fail
      have hb := alloc_below w10 (.cells #[.int .i64 zeroF.K, .int .i64 zeroF.R, .int .i64 zeroF.S, .int .i64 zeroF.P.K, .int .i64 zeroF.P.V, .slice pa zeroF.E.length pc] 29)
      have hE : Blk (w10.alloc (.cells #[.int .i64 zeroF.K, .int .i64 zeroF.R, .int .i64 zeroF.S, .int .i64 zeroF.P.K, .int .i64 zeroF.P.V, .slice pa zeroF.E.length pc] 29)) w10.heap.size 29 (frBox zeroF pa pc) := Blk.new w10 _ _
      replace hB := hB.trans (hb.mono hB.size)
      replace hX := hX.later hb
      replace hrx := hrx.later hb
      replace hrp := hrp.later hb
      clear hb
      generalize w10.alloc (.cells #[.int .i64 zeroF.K, .int .i64 zeroF.R, .int .i64 zeroF.S, .int .i64 zeroF.P.K, .int .i64 zeroF.P.V, .slice pa zeroF.E.length pc] 29) = w11 at *
      generalize w10.heap.size = eb at *
      have qE : ∀ i, w11.cell? ⟨eb, i, none⟩ = (#[.int .i64 0, .int .i64 0, .int .i64 0, .int .i64 0, .int .i64 0, .slice pa 0 pc] : Array Value)[i]? := hE.at
      go_wp2
      go_ret
      exact ⟨rfl, hB⟩


end Go.Proofs.YtkflijbhlibadabDoor
/-
  ArbRules' walk, all ten ways.
-/
namespace Go.Proofs.YtkflijbhlibadabDoor
open Go.RowKit Plait
set_option maxRecDepth 100000
set_option linter.unusedVariables false

theorem arbRules_walk (c : Cf) (a : Option Addr) (cap : Nat) (f : Fr) (fa : Option Addr) (fc : Nat) (g : Fr) (ga : Option Addr) (gc : Nat) (na : Option Addr) (ns : List Int) (nc : Nat) (ma : Option Addr) (ms : List Int) (mc : Nat) (wh rd : Int) (w : World) (hbd : Bnds w)
    (hrow : Row w a c.P) (iN : inI c.N) (iP : inI c.Pi) (iE : inI c.E) (iG : inI c.G) (iF : inI c.F) (hfE : RowT w fa f.E) (iK : inI f.K) (iR : inI f.R) (iS : inI f.S) (iQ : inI f.P.K) (iV : inI f.P.V) (hgE : RowT w ga g.E) (jK : inI g.K) (jR : inI g.R) (jS : inI g.S) (jQ : inI g.P.K) (jV : inI g.P.V)
    (hns : Row w na ns) (hms : Row w ma ms) (o1 : -9223372036854775808 ≤ wh) (o2 : wh ≤ 9223372036854775807) (r1 : -9223372036854775808 ≤ rd) (r2 : rd ≤ 9223372036854775807) :
    Calls Tryd.prog 5 #[.agg #[.int .i64 c.N, .int .i64 c.Pi, .int .i64 c.E, .int .i64 c.G, .int .i64 c.F, .slice a c.P.length cap], .agg #[.int .i64 f.K, .int .i64 f.R, .int .i64 f.S, .int .i64 f.P.K, .int .i64 f.P.V, .slice fa f.E.length fc], .agg #[.int .i64 g.K, .int .i64 g.R, .int .i64 g.S, .int .i64 g.P.K, .int .i64 g.P.V, .slice ga g.E.length gc], .slice na ns.length nc, .slice ma ms.length mc, .int .i64 wh, .int .i64 rd] w fun e w' => e = .returned (.bool true) ∧ Below w.heap.size w w' := by
  have z0 := Int.emod_nonneg wh (show (10 : Int) ≠ 0 by omega)
  have z1 := Int.emod_lt_of_pos wh (show (0 : Int) < 10 by omega)
  by_cases hA : wh % 10 = 0 ∨ wh % 10 = 1
  · exact arbRules_wA c a cap f fa fc g ga gc na ns nc ma ms mc wh rd w hbd hrow iN iP iE iG iF hfE iK iR iS iQ iV hgE jK jR jS jQ jV hns hms o1 o2 r1 r2 hA
  by_cases hB : wh % 10 = 2 ∨ wh % 10 = 3 ∨ wh % 10 = 4
  · exact arbRules_wB c a cap f fa fc g ga gc na ns nc ma ms mc wh rd w hbd hrow iN iP iE iG iF hfE iK iR iS iQ iV hgE jK jR jS jQ jV hns hms o1 o2 r1 r2 hB
  by_cases hC : wh % 10 = 5 ∨ wh % 10 = 6 ∨ wh % 10 = 7
  · exact arbRules_wC c a cap f fa fc g ga gc na ns nc ma ms mc wh rd w hbd hrow iN iP iE iG iF hfE iK iR iS iQ iV hgE jK jR jS jQ jV hns hms o1 o2 r1 r2 hC
  · exact arbRules_wD c a cap f fa fc g ga gc na ns nc ma ms mc wh rd w hbd hrow iN iP iE iG iF hfE iK iR iS iQ iV hgE jK jR jS jQ jV hns hms o1 o2 r1 r2 (by omega)

end Go.Proofs.YtkflijbhlibadabDoor
namespace Go.Proofs.YtkflijbhlibadabDoor
open Go.ChangeShapes Go.WideShapes Go.ChangeAt Go.RowKit Plait
set_option maxRecDepth 100000
open Go.ChangeMaps (open_string shut_string)
set_option linter.unusedVariables false

set_option maxRecDepth 100000 in
theorem arbRules_lifted (os : Os) (started : os.Started) (H : Type) (enc : TypeId × Value → H) :
    ReturnsInHanded {} Tryd.checked os 5 .any (fun w args => (Rows.arbRulesSpec.pre enc Tryd.prog Tryd.f5 [] false w args ∧ laidMetH Tryd.prog laidV w) ∧ sizedMet enc Tryd.prog Tryd.f5 (OpenSpec.ofChange Rows.arbRulesSpec) false w args)
      (Rows.arbRulesSpec.post enc Tryd.prog Tryd.f5 false true false false) := by
  refine returnsInHanded_of_change_and (C := Tryd.checked) (X := fun w _ => laidMetH Tryd.prog laidV w) (fun _ _ _ hh h => h.of_heap hh) own started (by kernel_rfl) Tryd.func5
    (ChangeSpec.witness_shaped (enc := enc) (C := Tryd.checked) (os := os) (X := fun w _ => laidMetH Tryd.prog laidV w) false (World.doorLaid Tryd.prog 400 os) #[.agg #[.int .i64 0, .int .i64 0, .int .i64 0, .int .i64 0, .int .i64 0, .slice none 0 0], .agg #[.int .i64 0, .int .i64 0, .int .i64 0, .int .i64 0, .int .i64 0, .slice none 0 0], .agg #[.int .i64 0, .int .i64 0, .int .i64 0, .int .i64 0, .int .i64 0, .slice none 0 0], .slice none 0 0, .slice none 0 0, .int .i64 0, .int .i64 0] 8 rfl (World.shaped_of_RefB (by kernel_rfl) (by kernel_rfl)) (by kernel_rfl) (by kernel_rfl) (by kernel_rfl) (door_met os _)) ?_
  intro W base args ds gs before hval0 hW _ _ hL _
  have hval : ∀ (j : Nat) t v, Tryd.f5.params[j]? = some t → args[j]? = some v → Value.okWide Tryd.prog W .any base t v := hval0
  have hW' := hW
  obtain ⟨p, q, hA0, hV, rfl, hfz, hnd⟩ := hW
  have hA : DataW.TrodAll enc Tryd.prog W 0 (fun _ => true) true Tryd.f5.params.toList args.toList ds p := hA0
  rw [Tryd.params5] at hA hval
  obtain ⟨v0, vs0, d0, ds0, p0, q0, hargs, rfl, rfl, h0, r0⟩ := trodAll_cons hA
  obtain ⟨v1, vs1, d1, ds1, p1, q1, rfl, rfl, rfl, h1, r1⟩ := trodAll_cons r0
  obtain ⟨v2, vs2, d2, ds2, p2, q2, rfl, rfl, rfl, h2, r2⟩ := trodAll_cons r1
  obtain ⟨v3, vs3, d3, ds3, p3, q3, rfl, rfl, rfl, h3, r3⟩ := trodAll_cons r2
  obtain ⟨v4, vs4, d4, ds4, p4, q4, rfl, rfl, rfl, h4, r4⟩ := trodAll_cons r3
  obtain ⟨v5, vs5, d5, ds5, p5, q5, rfl, rfl, rfl, h5, r5⟩ := trodAll_cons r4
  obtain ⟨v6, vs6, d6, ds6, p6, q6, rfl, rfl, rfl, h6, r6⟩ := trodAll_cons r5
  obtain ⟨rfl, rfl, rfl⟩ := trodAll_nil r6
  obtain rfl : args = #[v0, v1, v2, v3, v4, v5, v6] := by cases args; simp_all
  obtain ⟨rfl, rfl⟩ := trodVars_none hV
  have k0 := h0
  have lt0 : ∀ x ∈ p0, x.block < W.heap.size := by obtain ⟨m, hm⟩ := k0; exact DataW.trod_lt m _ _ _ hm
  obtain ⟨c0, a0, cap0, rfl, w0, i0a, i0b, i0c, i0d, i0e⟩ := open_conf (hval 0 24 v0 rfl rfl) h0
  have k1 := h1
  have lt1 : ∀ x ∈ p1, x.block < W.heap.size := by obtain ⟨m, hm⟩ := k1; exact DataW.trod_lt m _ _ _ hm
  obtain ⟨c1, a1, cap1, rfl, w1, i1a, i1b, i1c, i1d, i1e⟩ := open_frame (hval 1 29 v1 rfl rfl) h1
  have k2 := h2
  have lt2 : ∀ x ∈ p2, x.block < W.heap.size := by obtain ⟨m, hm⟩ := k2; exact DataW.trod_lt m _ _ _ hm
  obtain ⟨c2, a2, cap2, rfl, w2, i2a, i2b, i2c, i2d, i2e⟩ := open_frame (hval 2 29 v2 rfl rfl) h2
  have k3 := h3
  have lt3 : ∀ x ∈ p3, x.block < W.heap.size := by obtain ⟨m, hm⟩ := k3; exact DataW.trod_lt m _ _ _ hm
  obtain ⟨a3, len3, cap3, rfl⟩ := okWide_slice Tryd.underlying22 (hval 3 22 v3 rfl rfl)
  obtain ⟨z3, e3, w3⟩ : ∃ zs : List Int, len3 = zs.length ∧ Row W a3 zs := by
    obtain ⟨fuel, hf⟩ := h3
    rcases open_ints Tryd.underlying22 Tryd.underlying3 (by kernel_rfl) hf with ⟨hcs, _⟩ | ⟨x, l, c, zs, hcs, _, hl, hm, hz, _, hcell, hwz⟩
    · simp [Value.cells] at hcs
      obtain ⟨rfl, rfl, rfl⟩ := hcs
      exact row_nil W
    · simp [Value.cells] at hcs
      obtain ⟨rfl, rfl, rfl⟩ := hcs
      exact row_of hl hm (by rw [hz]; split <;> omega) hcell hwz
  subst e3
  have k4 := h4
  have lt4 : ∀ x ∈ p4, x.block < W.heap.size := by obtain ⟨m, hm⟩ := k4; exact DataW.trod_lt m _ _ _ hm
  obtain ⟨a4, len4, cap4, rfl⟩ := okWide_slice Tryd.underlying22 (hval 4 22 v4 rfl rfl)
  obtain ⟨z4, e4, w4⟩ : ∃ zs : List Int, len4 = zs.length ∧ Row W a4 zs := by
    obtain ⟨fuel, hf⟩ := h4
    rcases open_ints Tryd.underlying22 Tryd.underlying3 (by kernel_rfl) hf with ⟨hcs, _⟩ | ⟨x, l, c, zs, hcs, _, hl, hm, hz, _, hcell, hwz⟩
    · simp [Value.cells] at hcs
      obtain ⟨rfl, rfl, rfl⟩ := hcs
      exact row_nil W
    · simp [Value.cells] at hcs
      obtain ⟨rfl, rfl, rfl⟩ := hcs
      exact row_of hl hm (by rw [hz]; split <;> omega) hcell hwz
  subst e4
  obtain ⟨a5, rfl, rfl, rfl, w5⟩ := open_int Tryd.underlying3 (hval 5 3 v5 rfl rfl) h5
  obtain ⟨a6, rfl, rfl, rfl, w6⟩ := open_int Tryd.underlying3 (hval 6 3 v6 rfl rfl) h6
  clear hA0 hval0
  refine (arbRules_walk c0 a0 cap0 c1 a1 cap1 c2 a2 cap2 a3 z3 cap3 a4 z4 cap4 a5 a6 W (of_laid hL) w0 i0a i0b i0c i0d i0e w1 i1a i1b i1c i1d i1e w2 i2a i2b i2c i2d i2e w3 w4 (wf_lo w5) (wf_hi w5) (wf_lo w6) (wf_hi w6)).mono fun e W' ⟨he, bel⟩ => ?_
  subst he
  exact ⟨_, rfl, _, _, _, [], _, [], hW', trodAll_mk1 (shut_bool Tryd.underlying4 _), (trodAll_cons_mk (Below.trod laidOut (by kernel_rfl) (of_decide_eq_true (by kernel_rfl)) k0 bel lt0) (trodAll_cons_mk (Below.trod laidOut (by kernel_rfl) (of_decide_eq_true (by kernel_rfl)) k1 bel lt1) (trodAll_cons_mk (Below.trod laidOut (by kernel_rfl) (of_decide_eq_true (by kernel_rfl)) k2 bel lt2) (trodAll_cons_mk (Below.trod laidOut (by kernel_rfl) (of_decide_eq_true (by kernel_rfl)) k3 bel lt3) (trodAll_cons_mk (Below.trod laidOut (by kernel_rfl) (of_decide_eq_true (by kernel_rfl)) k4 bel lt4) (trodAll_cons_mk (shut_int Tryd.underlying3 w5) (trodAll_cons_mk (shut_int Tryd.underlying3 w6) trodAll_mk0))))))), rfl, bel.frame _, fun h => by cases h⟩

theorem arbRules_over : Rows.arbRulesRow.holds Tryd.pinned (OpenSpec.ofChange Rows.arbRulesSpec) :=
  OpenClaim.holds_of_wide 5 Tryd.f5 rfl rfl rfl rfl rfl rfl rfl ⟨rfl, rfl, rfl, rfl, rfl⟩ rfl rfl rfl rfl rfl (by kernel_rfl) Tryd.func5 (by kernel_rfl)
    (of_decide_eq_true (by kernel_rfl)) (by unfold Func.isWrapper; first | (rw [if_pos (by decide +kernel)]; kernel_rfl) | (rw [if_neg (by decide +kernel)]; exact ⟨rfl, rfl⟩))
    (fun os started H enc _ => arbRules_lifted os started H enc)

theorem arbRules_holds : Rows.ArbRulesCardSaid :=
  Claim7.holds_tied_plain_at .later [] [.wider] true (true, "006ea62dc85fac090e9905e82acde7d14dedde7539dceda8060da74993108850") true
    arbRules_over (fun _ h => by cases h) (by kernel_rfl) (fun _ h => by cases h) arbRules_row_tie rfl ⟨rfl, rfl⟩ (by kernel_rfl) rfl
    (fun f fn hf hfn => by
      obtain rfl : f = 5 := Option.some.inj ((show Tryd.prog.funcNamed Tryd.f5.name = some 5 by kernel_rfl).symm.trans hf) |>.symm
      obtain rfl : fn = Tryd.f5 := (Option.some.inj (Tryd.func5.symm.trans hfn)).symm
      exact ⟨by kernel_rfl, fun j t ht => by
        rw [Tryd.params5] at ht
        have hm : t ∈ [24, 29, 29, 22, 22, 3, 3] := by
          have := Array.mem_of_getElem? ht
          simpa using this
        have hall : ([24, 29, 29, 22, 22, 3, 3].all fun u => !Tryd.prog.wantsStandIn u) = true := by kernel_rfl
        exact (show Tryd.prog.wantsStandIn t = false by simpa using List.all_eq_true.1 hall t hm)⟩)
    (by kernel_rfl)
#print axioms arbRules_holds
end Go.Proofs.YtkflijbhlibadabDoor

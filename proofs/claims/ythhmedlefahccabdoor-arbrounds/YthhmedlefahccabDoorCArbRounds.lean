/-
  ArbRounds answers true for every input, and leaves its arguments as they were; the package's table of bounds is tied to the program's text. No condition.
-/
import Derived.Test.YthhmedlefahccabDoorK13
import Derived.Test.YthhmedlefahccabDoorK9
import Derived.Test.YthhmedlefahccabDoorTie
import Derived.Test.YthhmedlefahccabDoorCards
/-
  ArbRounds' walk.
-/
namespace Go.Proofs.YthhmedlefahccabDoor
open Go.RowKit Plait
set_option maxRecDepth 100000
set_option linter.unusedVariables false
set_option linter.unusedSimpArgs false

theorem wire_ne (d : Cf) (r k : Int) (h1 : 1 ≤ k) (h2 : k ≤ 65535) : wireI d r ≠ wireI d (r + k) := by unfold wireI; omega
theorem wire_on (d : Cf) (r : Int) : wireI d (r + 65536) = wireI d r := by unfold wireI; omega

set_option maxHeartbeats 3200000 in
theorem arbRounds_walk (c : Cf) (a : Option Addr) (cap : Nat) (f : Fr) (fa : Option Addr) (fc : Nat) (na : Option Addr) (ns : List Int) (nc : Nat) (rd off : Int) (w : World) (hbd : Bnds w) (hrow : Row w a c.P) (iN : inI c.N) (iP : inI c.Pi) (iE : inI c.E) (iG : inI c.G) (iF : inI c.F)
    (hfE : RowT w fa f.E) (iK : inI f.K) (iR : inI f.R) (iS : inI f.S) (iQ : inI f.P.K) (iV : inI f.P.V) (hns : Row w na ns) (r1 : -9223372036854775808 ≤ rd) (r2 : rd ≤ 9223372036854775807) (o1 : -9223372036854775808 ≤ off) (o2 : off ≤ 9223372036854775807) :
    Calls Tryd.prog 7 #[.agg #[.int .i64 c.N, .int .i64 c.Pi, .int .i64 c.E, .int .i64 c.G, .int .i64 c.F, .slice a c.P.length cap], .agg #[.int .i64 f.K, .int .i64 f.R, .int .i64 f.S, .int .i64 f.P.K, .int .i64 f.P.V, .slice fa f.E.length fc], .slice na ns.length nc, .int .i64 rd, .int .i64 off] w fun e w' => e = .returned (.bool true) ∧ Below w.heap.size w w' := by
  have hB : Below w.heap.size w ((w.alloc (.cells #[.int .i64 c.N, .int .i64 c.Pi, .int .i64 c.E, .int .i64 c.G, .int .i64 c.F, .slice a c.P.length cap] 24)).alloc (.cells #[.int .i64 f.K, .int .i64 f.R, .int .i64 f.S, .int .i64 f.P.K, .int .i64 f.P.V, .slice fa f.E.length fc] 29)) := (alloc_below w _).alloc (by simp) _
  have hC : Blk ((w.alloc (.cells #[.int .i64 c.N, .int .i64 c.Pi, .int .i64 c.E, .int .i64 c.G, .int .i64 c.F, .slice a c.P.length cap] 24)).alloc (.cells #[.int .i64 f.K, .int .i64 f.R, .int .i64 f.S, .int .i64 f.P.K, .int .i64 f.P.V, .slice fa f.E.length fc] 29)) w.heap.size 24 (confBox c a cap) := (Blk.new w _ _).alloc _
  have hF : Blk ((w.alloc (.cells #[.int .i64 c.N, .int .i64 c.Pi, .int .i64 c.E, .int .i64 c.G, .int .i64 c.F, .slice a c.P.length cap] 24)).alloc (.cells #[.int .i64 f.K, .int .i64 f.R, .int .i64 f.S, .int .i64 f.P.K, .int .i64 f.P.V, .slice fa f.E.length fc] 29)) (w.heap.size + 1) 29 (frBox f fa fc) := Blk.newAt _ _ (by simp)
  go_enter Tryd.func7, Tryd.ntmps7
  go_upto_region 1 with fail
  generalize ((w.alloc (.cells #[.int .i64 c.N, .int .i64 c.Pi, .int .i64 c.E, .int .i64 c.G, .int .i64 c.F, .slice a c.P.length cap] 24)).alloc (.cells #[.int .i64 f.K, .int .i64 f.R, .int .i64 f.S, .int .i64 f.P.K, .int .i64 f.P.V, .slice fa f.E.length fc] 29)) = w1 at *
  go_wp2_with fail
  refine (known10_any _ (hbd.later hB)).mono ?_
  rintro e wn ⟨rfl, hb⟩
  replace hB := hB.trans (hb.mono hB.size)
  replace hC := hC.later hb
  replace hF := hF.later hb
  clear hb
  have qC := hC.at
  unfold confBox at qC
  go_wp2_with fail
  refine (make_any c a cap _ (hrow.later hB)).mono ?_
  rintro e wm ⟨da, dc, rfl, hrd, hfd, hb⟩
  replace hB := hB.trans (hb.mono hB.size)
  replace hF := hF.later hb
  clear hb qC hC hfd
  have hok := makeC_ok c
  generalize makeC c = d at *
  have hD : Blk (wm.alloc (.cells #[.int .i64 d.N, .int .i64 d.Pi, .int .i64 d.E, .int .i64 d.G, .int .i64 d.F, .slice da d.P.length dc] 24)) wm.heap.size 24 (confBox d da dc) := Blk.new wm _ _
  replace hB := hB.alloc hB.size (.cells #[.int .i64 d.N, .int .i64 d.Pi, .int .i64 d.E, .int .i64 d.G, .int .i64 d.F, .slice da d.P.length dc] 24)
  replace hF := hF.alloc (.cells #[.int .i64 d.N, .int .i64 d.Pi, .int .i64 d.E, .int .i64 d.G, .int .i64 d.F, .slice da d.P.length dc] 24)
  replace hrd := hrd.alloc (.cells #[.int .i64 d.N, .int .i64 d.Pi, .int .i64 d.E, .int .i64 d.G, .int .i64 d.F, .slice da d.P.length dc] 24)
  go_upto_region 4 with fail
  generalize wm.alloc (.cells #[.int .i64 d.N, .int .i64 d.Pi, .int .i64 d.E, .int .i64 d.G, .int .i64 d.F, .slice da d.P.length dc] 24) = wn at *
  generalize wm.heap.size = db at *
  go_wp2_with fail
  refine (within10_any rd 100000 _ (by omega) (by omega)).mono ?_
  rintro e wl ⟨rfl, rfl⟩
  have x0 := Int.emod_nonneg rd (show (100000 : Int) ≠ 0 by omega)
  have x1 := Int.emod_lt_of_pos rd (show (0 : Int) < 100000 by omega)
  generalize rd % 100000 = r at *
  have qD := hD.at
  unfold confBox at qD
  have qF := hF.at
  unfold frBox at qF
  go_wp2_with fail
  refine (make5_any d da dc f fa fc na ns nc _ hok (hns.later hB) iK iR iS iV).mono ?_
  rintro e wm ⟨ga, gc, rfl, hrg, hfg, hb⟩
  replace hB := hB.trans (hb.mono hB.size)
  replace hF := hF.later hb
  replace hD := hD.later hb
  replace hrd := hrd.later hb
  clear hb qD qF hfg
  have hokg := makeF_ok d f ns hok
  generalize makeF d f ns = g at *
  have hG : Blk (wm.alloc (.cells #[.int .i64 g.K, .int .i64 g.R, .int .i64 g.S, .int .i64 g.P.K, .int .i64 g.P.V, .slice ga g.E.length gc] 29)) wm.heap.size 29 (frBox g ga gc) := Blk.new wm _ _
  have hgn := hrg.ltT
  have hdn := hrd.ltR
  have hdb := hD.lt
  have hwg := hB.size
  replace hB := hB.alloc hB.size (.cells #[.int .i64 g.K, .int .i64 g.R, .int .i64 g.S, .int .i64 g.P.K, .int .i64 g.P.V, .slice ga g.E.length gc] 29)
  replace hF := hF.alloc (.cells #[.int .i64 g.K, .int .i64 g.R, .int .i64 g.S, .int .i64 g.P.K, .int .i64 g.P.V, .slice ga g.E.length gc] 29)
  replace hD := hD.alloc (.cells #[.int .i64 g.K, .int .i64 g.R, .int .i64 g.S, .int .i64 g.P.K, .int .i64 g.P.V, .slice ga g.E.length gc] 29)
  replace hrd := hrd.alloc (.cells #[.int .i64 g.K, .int .i64 g.R, .int .i64 g.S, .int .i64 g.P.K, .int .i64 g.P.V, .slice ga g.E.length gc] 29)
  replace hrg := hrg.alloc (.cells #[.int .i64 g.K, .int .i64 g.R, .int .i64 g.S, .int .i64 g.P.K, .int .i64 g.P.V, .slice ga g.E.length gc] 29)
  go_upto_region 6 with fail
  generalize wm.alloc (.cells #[.int .i64 g.K, .int .i64 g.R, .int .i64 g.S, .int .i64 g.P.K, .int .i64 g.P.V, .slice ga g.E.length gc] 29) = wn at *
  generalize wm.heap.size = gb at *
  have qD := hD.at
  unfold confBox at qD
  have qG := hG.at
  unfold frBox at qG
  go_wp2_with fail
  refine (rwire_any d da dc r _ hok (by omega) (by omega)).mono ?_
  rintro e wq ⟨rfl, hb⟩
  (try clear qD)
  (try clear qG)
  replace hB := hB.trans (hb.mono hB.size)
  replace hD := hD.later hb
  replace hrd := hrd.later hb
  replace hG := hG.later hb
  replace hrg := hrg.later hb
  have qD := hD.at
  unfold confBox at qD
  have qG := hG.at
  unfold frBox at qG
  clear hb
  obtain ⟨R0, R1⟩ := wireI_range d r
  have fG := hG.frozen
  go_upto_region 7 with fail
  clear qD qG fG
  obtain ⟨fx, hx⟩ : ∃ fx : Fr, fx = { g with R := wireI d r } := ⟨_, rfl⟩
  have hX : Blk (wq.setCell ⟨gb, 1, none⟩ (.int .i64 (wireI d r))) gb 29 (frBox fx ga gc) := by subst hx; exact hG.set 1 _
  have hrx : RowT (wq.setCell ⟨gb, 1, none⟩ (.int .i64 (wireI d r))) ga fx.E := by subst hx; exact hrg.far2 gb 1 _ (hgn.imp id fun q y e => by have := q y e; omega)
  have hokx : fx.Ok d := by subst hx; exact okR hokg _ R0 R1
  have HXR := Lib.hid (show fx.R = wireI d r by subst hx; rfl)
  have HXS := Lib.hid (show fx.S = g.S by subst hx; rfl)
  replace hB := hB.setCell (p := ⟨gb, 1, none⟩) hwg (.int .i64 (wireI d r))
  replace hD := hD.far (p := ⟨gb, 1, none⟩) (by show db ≠ gb; omega) (.int .i64 (wireI d r))
  replace hrd := hrd.farR gb 1 (.int .i64 (wireI d r)) (hdn.imp id fun q y e => by have := q y e; omega)
  clear hG hrg hx
  generalize wq.setCell ⟨gb, 1, none⟩ (.int .i64 (wireI d r)) = wq at *
  have qD := hD.at
  unfold confBox at qD
  have qX := hX.at
  unfold frBox at qX
  go_wp2_with fail
  refine (rText_ok d da dc fx ga gc _ hok hokx hrx).mono ?_
  rintro e wt ⟨rfl, hb⟩
  replace hB := hB.trans (hb.mono hB.size)
  replace hD := hD.later hb
  replace hrd := hrd.later hb
  replace hX := hX.later hb
  replace hrx := hrx.later hb
  clear hb qD qX
  go_wp2_with fail
  refine (within10_any off 65535 _ (by omega) (by omega)).mono ?_
  rintro e wl ⟨rfl, rfl⟩
  have k0 := Int.emod_nonneg off (show (65535 : Int) ≠ 0 by omega)
  have k1 := Int.emod_lt_of_pos off (show (0 : Int) < 65535 by omega)
  generalize off % 65535 = k at *
  have hxl : (textF fx).length ≤ 1048576 := by
    have h1 := textF_length fx
    have h2 := (ok_small hok hokx).2.2.2.2.2
    omega
  have HP1 := Lib.hid (rightA_text hok hokx HXR.out rfl)
  have HP2 := Lib.hid (rightA_other (r := r + (1 + k)) (s := fx.S) hok hokx (.inl (by rw [HXR.out]; exact wire_ne d r (1 + k) (by omega) (by omega))))
  have s0 := hokx.s0
  have s1 := hokx.s1
  have n6 := hok.n6; have n12 := hok.n12; have nl := hok.len
  have sn : slotsI d ≤ 15 ∧ 6 ≤ slotsI d := by unfold slotsI; omega
  have hmod : (fx.S + 1) % slotsI d ≠ fx.S := by
    by_cases e : fx.S + 1 = slotsI d
    · rw [e, Int.emod_self]; omega
    · rw [Int.emod_eq_of_lt (by omega) (by omega)]; omega
  have HP3 := Lib.hid (rightA_other (r := r) (s := (fx.S + 1) % slotsI d) hok hokx (.inr (Ne.symm hmod)))
  have HP4 := Lib.hid (rightA_text (r := r + 65536) (s := fx.S) hok hokx (by rw [HXR.out, wire_on]) rfl)
  clear hmod HXR HXS
  have HR := Lib.hid (fun (r' s' : Int) (p : Fr × Bool) (hp : rightA d r' s' (textF fx) = p) (h0 : 0 ≤ r') (h1 : r' ≤ 1073741824) (W : World) (hb : Bnds W) (hr : Row W da d.P) => show Calls Tryd.prog 18 #[.agg #[.int .i64 d.N, .int .i64 d.Pi, .int .i64 d.E, .int .i64 d.G, .int .i64 d.F, .slice da d.P.length dc], .int .i64 r', .int .i64 s', .string ⟨(textF fx).toArray⟩] W (RightRet p W) from hp ▸ aRight_any d da dc r' s' (textF fx) W hb hok hr h0 h1 hxl)
  clear hxl
  have HSm := Lib.hid (fun W (aa : Option Addr) (ac : Nat) (h1 : RowT W aa fx.E) (h2 : RowT W ga fx.E) => rSame5_any fx fx aa ga ac gc W h1 h2)
  generalize textF fx = t at *
  have qD := hD.at
  unfold confBox at qD
  have qX := hX.at
  unfold frBox at qX
  go_wp2_with fail
  refine (HR.out r fx.S _ HP1.out (by omega) (by omega) _ (hbd.later hB) hrd).mono ?_
  rintro e wt ⟨aa, ac, rfl, hra, -, hb⟩
  replace hB := hB.trans (hb.mono hB.size)
  replace hD := hD.later hb
  replace hrd := hrd.later hb
  replace hX := hX.later hb
  replace hrx := hrx.later hb
  clear hb qD qX
  go_upto_region 10 with fail
  have hb := alloc_below wt (.cells #[.int .i64 fx.K, .int .i64 fx.R, .int .i64 fx.S, .int .i64 fx.P.K, .int .i64 fx.P.V, .slice aa fx.E.length ac] 29)
  have hA : Blk (wt.alloc (.cells #[.int .i64 fx.K, .int .i64 fx.R, .int .i64 fx.S, .int .i64 fx.P.K, .int .i64 fx.P.V, .slice aa fx.E.length ac] 29)) wt.heap.size 29 (frBox fx aa ac) := Blk.new wt _ _
  replace hB := hB.trans (hb.mono hB.size)
  replace hD := hD.later hb
  replace hrd := hrd.later hb
  replace hX := hX.later hb
  replace hrx := hrx.later hb
  replace hra := hra.later hb
  clear hb
  generalize wt.alloc (.cells #[.int .i64 fx.K, .int .i64 fx.R, .int .i64 fx.S, .int .i64 fx.P.K, .int .i64 fx.P.V, .slice aa fx.E.length ac] 29) = w5 at *
  generalize wt.heap.size = ab at *
  have qD := hD.at
  unfold confBox at qD
  have qX := hX.at
  unfold frBox at qX
  go_wp2_with fail
  refine (HR.out (r + (1 + k)) fx.S _ HP2.out (by omega) (by omega) _ (hbd.later hB) hrd).mono ?_
  rintro e wt ⟨ba, bc, rfl, hrb, -, hb⟩
  replace hB := hB.trans (hb.mono hB.size)
  replace hD := hD.later hb
  replace hrd := hrd.later hb
  replace hX := hX.later hb
  replace hrx := hrx.later hb
  replace hA := hA.later hb
  replace hra := hra.later hb
  clear hb qD qX
  go_upto_region 11 with fail
  have hb := alloc_below wt (.cells #[.int .i64 zeroF.K, .int .i64 zeroF.R, .int .i64 zeroF.S, .int .i64 zeroF.P.K, .int .i64 zeroF.P.V, .slice ba zeroF.E.length bc] 29)
  have hBb : Blk (wt.alloc (.cells #[.int .i64 zeroF.K, .int .i64 zeroF.R, .int .i64 zeroF.S, .int .i64 zeroF.P.K, .int .i64 zeroF.P.V, .slice ba zeroF.E.length bc] 29)) wt.heap.size 29 #[.int .i64 0, .int .i64 0, .int .i64 0, .int .i64 0, .int .i64 0, .slice ba 0 bc] := Blk.new wt _ _
  replace hB := hB.trans (hb.mono hB.size)
  replace hD := hD.later hb
  replace hrd := hrd.later hb
  replace hX := hX.later hb
  replace hrx := hrx.later hb
  replace hA := hA.later hb
  replace hra := hra.later hb
  clear hb
  generalize wt.alloc (.cells #[.int .i64 zeroF.K, .int .i64 zeroF.R, .int .i64 zeroF.S, .int .i64 zeroF.P.K, .int .i64 zeroF.P.V, .slice ba zeroF.E.length bc] 29) = w6 at *
  generalize wt.heap.size = bb at *
  have HSl := Lib.hid (fun W => rslots_any d da dc W hok)
  generalize slotsI d = sl at *
  have z0 : 0 ≤ fx.S + 1 := by omega
  have z2 : 0 < sl := by omega
  have z1 : IntKind.i64.wrap (fx.S + 1) = fx.S + 1 := wrap_in _ (by omega) (by omega)
  refine region_slots [some 65, some 66, some 67, some 68, some 69, some 70, some 71, some 72, some 73, some 74, some 64, some 75, some 76, some 20, none, some 21] [none, none, none, none, none, none, none, none, none, none, none, none, none, none, some 13, none] 109 16 rfl (by kernel_rfl) (by kernel_rfl) rfl rfl ?_
  apply step_fix
  · intro a W Zs hS hFm hz hd
    have h11 := hFm.old 11 rfl
    conv at h11 => rhs; whnf
    replace h11 := ev_get hFm.size h11
    have hq := (hD.drew1.later hS).at
    unfold confBox at hq
    refine .inl ⟨wanted_none rfl _, fun K hK => ?_⟩
    have HK := Lib.hid hK
    clear hd hFm hK
    go_simp
    exact HK.out _ _ rfl (Below.refl _ _)
  simp only [List.nil_append, List.cons_append]
  apply step_fix
  · intro a W Zs hS hFm hz hd
    have h12 := hFm.old 12 rfl
    conv at h12 => rhs; whnf
    replace h12 := ev_get hFm.size h12
    refine .inl ⟨wanted_none rfl _, fun K hK => ?_⟩
    have HK := Lib.hid hK
    clear hd hFm hK
    go_simp
    exact HK.out _ _ rfl (Below.refl _ _)
  simp only [List.nil_append, List.cons_append]
  apply step_fix
  · intro a W Zs hS hFm hz hd
    have h13 := hFm.old 13 rfl
    conv at h13 => rhs; whnf
    replace h13 := ev_get hFm.size h13
    refine .inl ⟨wanted_none rfl _, fun K hK => ?_⟩
    have HK := Lib.hid hK
    clear hd hFm hK
    go_simp
    exact HK.out _ _ rfl (Below.refl _ _)
  simp only [List.nil_append, List.cons_append]
  apply step_fix
  · intro a W Zs hS hFm hz hd
    have h67 := ev_get hFm.size (hd 2 67 rfl rfl)
    have hq := (hX.drew1.later hS).at
    unfold frBox at hq
    refine .inl ⟨wanted_none rfl _, fun K hK => ?_⟩
    have HK := Lib.hid hK
    clear hd hFm hK
    go_simp
    exact HK.out _ _ rfl (Below.refl _ _)
  simp only [List.nil_append, List.cons_append]
  apply step_fix
  · intro a W Zs hS hFm hz hd
    have h68 := ev_get hFm.size (hd 3 68 rfl rfl)
    refine .inl ⟨wanted_none rfl _, fun K hK => ?_⟩
    have HK := Lib.hid hK
    clear hd hFm hK
    go_simp
    exact HK.out _ _ rfl (Below.refl _ _)
  simp only [List.nil_append, List.cons_append]
  apply step_fix
  · intro a W Zs hS hFm hz hd
    have h11 := hFm.old 11 rfl
    conv at h11 => rhs; whnf
    replace h11 := ev_get hFm.size h11
    have hq := (hD.drew1.later hS).at
    unfold confBox at hq
    refine .inl ⟨wanted_none rfl _, fun K hK => ?_⟩
    have HK := Lib.hid hK
    clear hd hFm hK
    go_simp
    exact HK.out _ _ rfl (Below.refl _ _)
  simp only [List.nil_append, List.cons_append]
  apply step_fix
  · intro a W Zs hS hFm hz hd
    have h70 := ev_get hFm.size (hd 5 70 rfl rfl)
    refine .inl ⟨wanted_none rfl _, fun K hK => ?_⟩
    have HK := Lib.hid hK
    clear hd hFm hK
    go_simp
    refine (HSl.out _).mono ?_
    rintro e W' ⟨rfl, hb⟩
    exact HK.out _ _ rfl hb
  simp only [List.nil_append, List.cons_append]
  apply step_fix
  · intro a W Zs hS hFm hz hd
    have h69 := ev_get hFm.size (hd 4 69 rfl rfl)
    have h71 := ev_get hFm.size (hd 6 71 rfl rfl)
    refine .inl ⟨wanted_none rfl _, fun K hK => ?_⟩
    have HK := Lib.hid hK
    clear hd hFm hK
    go_simp
    rw [if_neg (by omega), Int.tmod_eq_emod_of_nonneg z0]
    go_simp
    exact HK.out _ _ rfl (Below.refl _ _)
  simp only [List.nil_append, List.cons_append]
  apply step_fix
  · intro a W Zs hS hFm hz hd
    have h14 := hFm.old 14 rfl
    conv at h14 => rhs; whnf
    replace h14 := ev_get hFm.size h14
    refine .inl ⟨wanted_none rfl _, fun K hK => ?_⟩
    have HK := Lib.hid hK
    clear hd hFm hK
    go_simp
    exact HK.out _ _ rfl (Below.refl _ _)
  simp only [List.nil_append, List.cons_append]
  refine step_of (rbF _ (zeroF) (false)) (rbF_good _ _ _) ?_ ?_
  · intro a W Zs hS hFm hz hd
    have h65 := ev_get hFm.size (hd 0 65 rfl rfl)
    have h66 := ev_get hFm.size (hd 1 66 rfl rfl)
    have h72 := ev_get hFm.size (hd 7 72 rfl rfl)
    have h73 := ev_get hFm.size (hd 8 73 rfl rfl)
    refine .inl ⟨wanted_none rfl _, fun K hK => ?_⟩
    have HK := Lib.hid hK
    clear hd hFm hK
    go_simp
    refine (HR.out r ((fx.S + 1) % sl) _ HP3.out (by omega) (by omega) _ ((hbd.later hB).later (from_drew hS)) (hrd.later (from_drew hS))).mono ?_
    rintro e W' ⟨ra, rc, rfl, hr, hfr, hb⟩
    exact HK.out _ _ ⟨ra, rc, rfl, hr, hr.foot hfr⟩ hb
  simp only [List.nil_append, List.cons_append]
  refine step_of (rbF _ (zeroF) (false)) (rbF_good _ _ _) ?_ ?_
  · intro a W Zs hS hFm hz hd
    obtain ⟨a74, c74, e74, r74, f74⟩ := hd 9 74 rfl rfl
    have h74 := ev_get hFm.size e74
    refine .inl ⟨wanted_none rfl _, fun K hK => ?_⟩
    have HK := Lib.hid hK
    clear hd hFm hK
    go_simp
    exact HK.out _ _ ⟨a74, c74, rfl, r74, ft_mono f74 (foot_dep 9 rfl rfl rfl)⟩ (Below.refl _ _)
  simp only [List.nil_append, List.cons_append]
  refine step_of (frF _ (zeroF)) (frF_good _ _) ?_ ?_
  · intro a W Zs hS hFm hz hd
    obtain ⟨a64, c64, e64, r64, f64⟩ := hd 10 64 rfl rfl
    have h64 := ev_get hFm.size e64
    refine .inl ⟨wanted_none rfl _, fun K hK => ?_⟩
    have HK := Lib.hid hK
    clear hd hFm hK
    go_simp
    exact HK.out _ _ ⟨a64, c64, rfl, r64, ft_mono f64 (foot_dep 10 rfl rfl rfl)⟩ (Below.refl _ _)
  simp only [List.nil_append, List.cons_append]
  apply step_fix
  · intro a W Zs hS hFm hz hd
    obtain ⟨a64, c64, e64, r64, f64⟩ := hd 10 64 rfl rfl
    have h64 := ev_get hFm.size e64
    refine .inl ⟨wanted_none rfl _, fun K hK => ?_⟩
    have HK := Lib.hid hK
    clear hd hFm hK
    go_simp
    exact HK.out _ _ rfl (Below.refl _ _)
  simp only [List.nil_append, List.cons_append]
  refine step_of (boxF _ 29 6) (boxF_good _ _ _) ?_ ?_
  · intro a W Zs hS hFm hz hd
    refine .inl ⟨wanted_none rfl _, fun K hK => ?_⟩
    have HK := Lib.hid hK
    clear hd hFm hK
    go_simp
    exact HK.out _ _ ⟨_, _, rfl, rfl, Blk.new _ _ _, .inl ⟨Nat.le_refl _, by simp⟩⟩ (alloc_below _ _)
  simp only [List.nil_append, List.cons_append]
  refine step_of (frBoxF _ (zeroF)) (frBoxF_good _ _) ?_ ?_
  · intro a W Zs hS hFm hz hd hap
    obtain ⟨b20, cs20, e20, n20, q20, z20⟩ := hd 13 20 rfl rfl
    have h20 := ev_get hFm.size e20
    obtain ⟨a75, c75, e75, r75, f75⟩ := hd 11 75 rfl rfl
    have h75 := ev_get hFm.size e75
    have hB0 := (hz 13 _ rfl z20).1
    obtain ⟨u0, u1, u2, u3, u4, u5, rfl⟩ := arr6 n20
    have hq := q20.at
    have hfz := q20.frozen
    refine ⟨wanted_none rfl _, b20, z20, fun K hK => ?_⟩
    have HK := Lib.hid hK
    clear hd hFm hK
    go_simp
    exact HK.out undef _ (Only.fill6 _ _ _ _ _ _ _ _) (fun d hd' => by injection hd' with hd'; subst hd'; exact ⟨⟨b20, a75, c75, e20, q20.fill6 _ _ _ _ _ _, r75.agree f75 (store_apart (Only.fill6 W b20 _ _ _ _ _ _) hB0 z20 hap 11 rfl (by decide)), .inr (.inl rfl), ft_mono f75 (foot_depS 11 rfl rfl rfl)⟩, ⟨b20, _, e20, rfl, q20.fill6 _ _ _ _ _ _, z20⟩⟩)
  simp only [List.nil_append, List.cons_append]
  apply step_fix
  · intro a W Zs hS hFm hz hd
    have h76 := ev_get hFm.size (hd 12 76 rfl rfl)
    refine .inl ⟨wanted_none rfl _, fun K hK => ?_⟩
    have HK := Lib.hid hK
    clear hd hFm hK
    go_simp
    exact HK.out _ _ rfl (Below.refl _ _)
  simp only [List.nil_append, List.cons_append]
  intro a w7 Zs hS hFm hz hd
  have e21 := hd 15 21 (by decide) rfl
  have e0 := hFm.old 0 rfl
  conv at e0 => rhs; whnf
  have e1 := hFm.old 1 rfl
  conv at e1 => rhs; whnf
  have e2 := hFm.old 2 rfl
  conv at e2 => rhs; whnf
  have e3 := hFm.old 3 rfl
  conv at e3 => rhs; whnf
  have e4 := hFm.old 4 rfl
  conv at e4 => rhs; whnf
  have e5 := hFm.old 5 rfl
  conv at e5 => rhs; whnf
  have e6 := hFm.old 6 rfl
  conv at e6 => rhs; whnf
  have e7 := hFm.old 7 rfl
  conv at e7 => rhs; whnf
  have e8 := hFm.old 8 rfl
  conv at e8 => rhs; whnf
  have e9 := hFm.old 9 rfl
  conv at e9 => rhs; whnf
  have e10 := hFm.old 10 rfl
  conv at e10 => rhs; whnf
  have e11 := hFm.old 11 rfl
  conv at e11 => rhs; whnf
  have e12 := hFm.old 12 rfl
  conv at e12 => rhs; whnf
  have e13 := hFm.old 13 rfl
  conv at e13 => rhs; whnf
  have e14 := hFm.old 14 rfl
  conv at e14 => rhs; whnf
  have e15 := hFm.old 15 rfl
  conv at e15 => rhs; whnf
  have e16 := hFm.old 16 rfl
  conv at e16 => rhs; whnf
  have e17 := hFm.old 17 rfl
  conv at e17 => rhs; whnf
  have e18 := hFm.old 18 rfl
  conv at e18 => rhs; whnf
  have e19 := hFm.old 19 rfl
  conv at e19 => rhs; whnf
  have e22 := hFm.old 22 rfl
  conv at e22 => rhs; whnf
  have e23 := hFm.old 23 rfl
  conv at e23 => rhs; whnf
  have e24 := hFm.old 24 rfl
  conv at e24 => rhs; whnf
  have e25 := hFm.old 25 rfl
  conv at e25 => rhs; whnf
  have e26 := hFm.old 26 rfl
  conv at e26 => rhs; whnf
  have e27 := hFm.old 27 rfl
  conv at e27 => rhs; whnf
  have e28 := hFm.old 28 rfl
  conv at e28 => rhs; whnf
  have e29 := hFm.old 29 rfl
  conv at e29 => rhs; whnf
  have e30 := hFm.old 30 rfl
  conv at e30 => rhs; whnf
  have e31 := hFm.old 31 rfl
  conv at e31 => rhs; whnf
  have e32 := hFm.old 32 rfl
  conv at e32 => rhs; whnf
  have e33 := hFm.old 33 rfl
  conv at e33 => rhs; whnf
  have e34 := hFm.old 34 rfl
  conv at e34 => rhs; whnf
  have e35 := hFm.old 35 rfl
  conv at e35 => rhs; whnf
  have e36 := hFm.old 36 rfl
  conv at e36 => rhs; whnf
  have e37 := hFm.old 37 rfl
  conv at e37 => rhs; whnf
  have e38 := hFm.old 38 rfl
  conv at e38 => rhs; whnf
  have e39 := hFm.old 39 rfl
  conv at e39 => rhs; whnf
  have e40 := hFm.old 40 rfl
  conv at e40 => rhs; whnf
  have e41 := hFm.old 41 rfl
  conv at e41 => rhs; whnf
  have e42 := hFm.old 42 rfl
  conv at e42 => rhs; whnf
  have e43 := hFm.old 43 rfl
  conv at e43 => rhs; whnf
  have e44 := hFm.old 44 rfl
  conv at e44 => rhs; whnf
  have e45 := hFm.old 45 rfl
  conv at e45 => rhs; whnf
  have e46 := hFm.old 46 rfl
  conv at e46 => rhs; whnf
  have e47 := hFm.old 47 rfl
  conv at e47 => rhs; whnf
  have e48 := hFm.old 48 rfl
  conv at e48 => rhs; whnf
  have e49 := hFm.old 49 rfl
  conv at e49 => rhs; whnf
  have e50 := hFm.old 50 rfl
  conv at e50 => rhs; whnf
  have e51 := hFm.old 51 rfl
  conv at e51 => rhs; whnf
  have e52 := hFm.old 52 rfl
  conv at e52 => rhs; whnf
  have e53 := hFm.old 53 rfl
  conv at e53 => rhs; whnf
  have e54 := hFm.old 54 rfl
  conv at e54 => rhs; whnf
  have e55 := hFm.old 55 rfl
  conv at e55 => rhs; whnf
  have e56 := hFm.old 56 rfl
  conv at e56 => rhs; whnf
  have e57 := hFm.old 57 rfl
  conv at e57 => rhs; whnf
  have e58 := hFm.old 58 rfl
  conv at e58 => rhs; whnf
  have e59 := hFm.old 59 rfl
  conv at e59 => rhs; whnf
  have e60 := hFm.old 60 rfl
  conv at e60 => rhs; whnf
  have e61 := hFm.old 61 rfl
  conv at e61 => rhs; whnf
  have e62 := hFm.old 62 rfl
  conv at e62 => rhs; whnf
  have e63 := hFm.old 63 rfl
  conv at e63 => rhs; whnf
  have e77 := hFm.old 77 rfl
  conv at e77 => rhs; whnf
  have e78 := hFm.old 78 rfl
  conv at e78 => rhs; whnf
  have e79 := hFm.old 79 rfl
  conv at e79 => rhs; whnf
  have e80 := hFm.old 80 rfl
  conv at e80 => rhs; whnf
  have e81 := hFm.old 81 rfl
  conv at e81 => rhs; whnf
  have e82 := hFm.old 82 rfl
  conv at e82 => rhs; whnf
  have e83 := hFm.old 83 rfl
  conv at e83 => rhs; whnf
  have e84 := hFm.old 84 rfl
  conv at e84 => rhs; whnf
  have e85 := hFm.old 85 rfl
  conv at e85 => rhs; whnf
  have e86 := hFm.old 86 rfl
  conv at e86 => rhs; whnf
  have e87 := hFm.old 87 rfl
  conv at e87 => rhs; whnf
  have e88 := hFm.old 88 rfl
  conv at e88 => rhs; whnf
  have e89 := hFm.old 89 rfl
  conv at e89 => rhs; whnf
  have e90 := hFm.old 90 rfl
  conv at e90 => rhs; whnf
  have e91 := hFm.old 91 rfl
  conv at e91 => rhs; whnf
  have e92 := hFm.old 92 rfl
  conv at e92 => rhs; whnf
  have e93 := hFm.old 93 rfl
  conv at e93 => rhs; whnf
  have e94 := hFm.old 94 rfl
  conv at e94 => rhs; whnf
  have e95 := hFm.old 95 rfl
  conv at e95 => rhs; whnf
  have e96 := hFm.old 96 rfl
  conv at e96 => rhs; whnf
  have e97 := hFm.old 97 rfl
  conv at e97 => rhs; whnf
  have e98 := hFm.old 98 rfl
  conv at e98 => rhs; whnf
  have e99 := hFm.old 99 rfl
  conv at e99 => rhs; whnf
  have e100 := hFm.old 100 rfl
  conv at e100 => rhs; whnf
  have e101 := hFm.old 101 rfl
  conv at e101 => rhs; whnf
  have e102 := hFm.old 102 rfl
  conv at e102 => rhs; whnf
  have e103 := hFm.old 103 rfl
  conv at e103 => rhs; whnf
  have e104 := hFm.old 104 rfl
  conv at e104 => rhs; whnf
  have e105 := hFm.old 105 rfl
  conv at e105 => rhs; whnf
  have e106 := hFm.old 106 rfl
  conv at e106 => rhs; whnf
  have e107 := hFm.old 107 rfl
  conv at e107 => rhs; whnf
  have e108 := hFm.old 108 rfl
  conv at e108 => rhs; whnf
  have hsz := hFm.size
  have hdf := hFm.defers
  clear hd hFm
  obtain ⟨t, df⟩ := a
  simp only at hsz hdf
  subst hdf
  obtain ⟨x, hx⟩ : ∃ x : Nat → Value, ∀ i, t.getD i undef = x i := ⟨fun i => t.getD i undef, fun _ => rfl⟩
  have h21 := (hx 21).symm.trans e21
  have h0 := (hx 0).symm.trans e0
  have h1 := (hx 1).symm.trans e1
  have h2 := (hx 2).symm.trans e2
  have h3 := (hx 3).symm.trans e3
  have h4 := (hx 4).symm.trans e4
  have h5 := (hx 5).symm.trans e5
  have h6 := (hx 6).symm.trans e6
  have h7 := (hx 7).symm.trans e7
  have h8 := (hx 8).symm.trans e8
  have h9 := (hx 9).symm.trans e9
  have h10 := (hx 10).symm.trans e10
  have h11 := (hx 11).symm.trans e11
  have h12 := (hx 12).symm.trans e12
  have h13 := (hx 13).symm.trans e13
  have h14 := (hx 14).symm.trans e14
  have h15 := (hx 15).symm.trans e15
  have h16 := (hx 16).symm.trans e16
  have h17 := (hx 17).symm.trans e17
  have h18 := (hx 18).symm.trans e18
  have h19 := (hx 19).symm.trans e19
  have h22 := (hx 22).symm.trans e22
  have h23 := (hx 23).symm.trans e23
  have h24 := (hx 24).symm.trans e24
  have h25 := (hx 25).symm.trans e25
  have h26 := (hx 26).symm.trans e26
  have h27 := (hx 27).symm.trans e27
  have h28 := (hx 28).symm.trans e28
  have h29 := (hx 29).symm.trans e29
  have h30 := (hx 30).symm.trans e30
  have h31 := (hx 31).symm.trans e31
  have h32 := (hx 32).symm.trans e32
  have h33 := (hx 33).symm.trans e33
  have h34 := (hx 34).symm.trans e34
  have h35 := (hx 35).symm.trans e35
  have h36 := (hx 36).symm.trans e36
  have h37 := (hx 37).symm.trans e37
  have h38 := (hx 38).symm.trans e38
  have h39 := (hx 39).symm.trans e39
  have h40 := (hx 40).symm.trans e40
  have h41 := (hx 41).symm.trans e41
  have h42 := (hx 42).symm.trans e42
  have h43 := (hx 43).symm.trans e43
  have h44 := (hx 44).symm.trans e44
  have h45 := (hx 45).symm.trans e45
  have h46 := (hx 46).symm.trans e46
  have h47 := (hx 47).symm.trans e47
  have h48 := (hx 48).symm.trans e48
  have h49 := (hx 49).symm.trans e49
  have h50 := (hx 50).symm.trans e50
  have h51 := (hx 51).symm.trans e51
  have h52 := (hx 52).symm.trans e52
  have h53 := (hx 53).symm.trans e53
  have h54 := (hx 54).symm.trans e54
  have h55 := (hx 55).symm.trans e55
  have h56 := (hx 56).symm.trans e56
  have h57 := (hx 57).symm.trans e57
  have h58 := (hx 58).symm.trans e58
  have h59 := (hx 59).symm.trans e59
  have h60 := (hx 60).symm.trans e60
  have h61 := (hx 61).symm.trans e61
  have h62 := (hx 62).symm.trans e62
  have h63 := (hx 63).symm.trans e63
  have h77 := (hx 77).symm.trans e77
  have h78 := (hx 78).symm.trans e78
  have h79 := (hx 79).symm.trans e79
  have h80 := (hx 80).symm.trans e80
  have h81 := (hx 81).symm.trans e81
  have h82 := (hx 82).symm.trans e82
  have h83 := (hx 83).symm.trans e83
  have h84 := (hx 84).symm.trans e84
  have h85 := (hx 85).symm.trans e85
  have h86 := (hx 86).symm.trans e86
  have h87 := (hx 87).symm.trans e87
  have h88 := (hx 88).symm.trans e88
  have h89 := (hx 89).symm.trans e89
  have h90 := (hx 90).symm.trans e90
  have h91 := (hx 91).symm.trans e91
  have h92 := (hx 92).symm.trans e92
  have h93 := (hx 93).symm.trans e93
  have h94 := (hx 94).symm.trans e94
  have h95 := (hx 95).symm.trans e95
  have h96 := (hx 96).symm.trans e96
  have h97 := (hx 97).symm.trans e97
  have h98 := (hx 98).symm.trans e98
  have h99 := (hx 99).symm.trans e99
  have h100 := (hx 100).symm.trans e100
  have h101 := (hx 101).symm.trans e101
  have h102 := (hx 102).symm.trans e102
  have h103 := (hx 103).symm.trans e103
  have h104 := (hx 104).symm.trans e104
  have h105 := (hx 105).symm.trans e105
  have h106 := (hx 106).symm.trans e106
  have h107 := (hx 107).symm.trans e107
  have h108 := (hx 108).symm.trans e108
  have ht' : t = #[x 0, x 1, x 2, x 3, x 4, x 5, x 6, x 7, x 8, x 9, x 10, x 11, x 12, x 13, x 14, x 15, x 16, x 17, x 18, x 19, x 20, x 21, x 22, x 23, x 24, x 25, x 26, x 27, x 28, x 29, x 30, x 31, x 32, x 33, x 34, x 35, x 36, x 37, x 38, x 39, x 40, x 41, x 42, x 43, x 44, x 45, x 46, x 47, x 48, x 49, x 50, x 51, x 52, x 53, x 54, x 55, x 56, x 57, x 58, x 59, x 60, x 61, x 62, x 63, x 64, x 65, x 66, x 67, x 68, x 69, x 70, x 71, x 72, x 73, x 74, x 75, x 76, x 77, x 78, x 79, x 80, x 81, x 82, x 83, x 84, x 85, x 86, x 87, x 88, x 89, x 90, x 91, x 92, x 93, x 94, x 95, x 96, x 97, x 98, x 99, x 100, x 101, x 102, x 103, x 104, x 105, x 106, x 107, x 108] := frame_lit t 109 hsz x hx
  clear hx hsz hz e21 e0 e1 e2 e3 e4 e5 e6 e7 e8 e9 e10 e11 e12 e13 e14 e15 e16 e17 e18 e19 e22 e23 e24 e25 e26 e27 e28 e29 e30 e31 e32 e33 e34 e35 e36 e37 e38 e39 e40 e41 e42 e43 e44 e45 e46 e47 e48 e49 e50 e51 e52 e53 e54 e55 e56 e57 e58 e59 e60 e61 e62 e63 e77 e78 e79 e80 e81 e82 e83 e84 e85 e86 e87 e88 e89 e90 e91 e92 e93 e94 e95 e96 e97 e98 e99 e100 e101 e102 e103 e104 e105 e106 e107 e108
  subst ht'
  (try dsimp only)
  rw [h21, h0, h1, h2, h3, h4, h5, h6, h7, h8, h9, h10, h11, h12, h13, h14, h15, h16, h17, h18, h19, h22, h23, h24, h25, h26, h27, h28, h29, h30, h31, h32, h33, h34, h35, h36, h37, h38, h39, h40, h41, h42, h43, h44, h45, h46, h47, h48, h49, h50, h51, h52, h53, h54, h55, h56, h57, h58, h59, h60, h61, h62, h63, h77, h78, h79, h80, h81, h82, h83, h84, h85, h86, h87, h88, h89, h90, h91, h92, h93, h94, h95, h96, h97, h98, h99, h100, h101, h102, h103, h104, h105, h106, h107, h108]
  clear h21 h0 h1 h2 h3 h4 h5 h6 h7 h8 h9 h10 h11 h12 h13 h14 h15 h16 h17 h18 h19 h22 h23 h24 h25 h26 h27 h28 h29 h30 h31 h32 h33 h34 h35 h36 h37 h38 h39 h40 h41 h42 h43 h44 h45 h46 h47 h48 h49 h50 h51 h52 h53 h54 h55 h56 h57 h58 h59 h60 h61 h62 h63 h77 h78 h79 h80 h81 h82 h83 h84 h85 h86 h87 h88 h89 h90 h91 h92 h93 h94 h95 h96 h97 h98 h99 h100 h101 h102 h103 h104 h105 h106 h107 h108
  rw [undef_fold]
  have hb := from_drew hS
  replace hB := hB.trans (hb.mono hB.size)
  replace hD := hD.later hb
  replace hrd := hrd.later hb
  replace hX := hX.later hb
  replace hrx := hrx.later hb
  replace hA := hA.later hb
  replace hra := hra.later hb
  replace hBb := hBb.later hb
  clear hb hS z0 z1 z2
  have qD := hD.at
  unfold confBox at qD
  have qX := hX.at
  unfold frBox at qX
  go_wp2_with fail
  refine (HR.out (r + 65536) fx.S _ HP4.out (by omega) (by omega) _ (hbd.later hB) hrd).mono ?_
  rintro e wt ⟨ea, ec, rfl, hre, -, hb⟩
  replace hB := hB.trans (hb.mono hB.size)
  replace hD := hD.later hb
  replace hrd := hrd.later hb
  replace hX := hX.later hb
  replace hrx := hrx.later hb
  replace hA := hA.later hb
  replace hra := hra.later hb
  replace hBb := hBb.later hb
  clear hb qD qX
  go_upto_region 13 with fail
  have hb := alloc_below wt (.cells #[.int .i64 fx.K, .int .i64 fx.R, .int .i64 fx.S, .int .i64 fx.P.K, .int .i64 fx.P.V, .slice ea fx.E.length ec] 29)
  replace hB := hB.trans (hb.mono hB.size)
  replace hD := hD.later hb
  replace hrd := hrd.later hb
  replace hX := hX.later hb
  replace hrx := hrx.later hb
  replace hA := hA.later hb
  replace hra := hra.later hb
  replace hBb := hBb.later hb
  clear hb
  generalize wt.alloc (.cells #[.int .i64 fx.K, .int .i64 fx.R, .int .i64 fx.S, .int .i64 fx.P.K, .int .i64 fx.P.V, .slice ea fx.E.length ec] 29) = w8 at *
  have qX := hX.at
  unfold frBox at qX
  have qA := hA.at
  unfold frBox at qA
  have qB := hBb.at
  go_wp2_with fail
  refine (HSm.out _ aa ac hra hrx).mono ?_
  rintro e w9 ⟨rfl, hb⟩
  replace hBb := hBb.later hb
  have qB := hBb.at
  have hB9 := hB.trans (hb.mono hB.size)
  clear hb qX qA
  go_wp2
  go_ret
  exact ⟨by simp, hB9⟩

end Go.Proofs.YthhmedlefahccabDoor
namespace Go.Proofs.YthhmedlefahccabDoor
open Go.ChangeShapes Go.WideShapes Go.ChangeAt Go.RowKit Plait
set_option maxRecDepth 100000
open Go.ChangeMaps (open_string shut_string)
set_option linter.unusedVariables false

set_option maxRecDepth 100000 in
theorem arbRounds_lifted (os : Os) (started : os.Started) (H : Type) (enc : TypeId × Value → H) :
    ReturnsInHanded {} Tryd.checked os 7 .any (fun w args => (Rows.arbRoundsSpec.pre enc Tryd.prog Tryd.f7 [] false w args ∧ laidMetH Tryd.prog laidV w) ∧ sizedMet enc Tryd.prog Tryd.f7 (OpenSpec.ofChange Rows.arbRoundsSpec) false w args)
      (Rows.arbRoundsSpec.post enc Tryd.prog Tryd.f7 false true false false) := by
  refine returnsInHanded_of_change_and (C := Tryd.checked) (X := fun w _ => laidMetH Tryd.prog laidV w) (fun _ _ _ hh h => h.of_heap hh) own started (by kernel_rfl) Tryd.func7
    (ChangeSpec.witness_shaped (enc := enc) (C := Tryd.checked) (os := os) (X := fun w _ => laidMetH Tryd.prog laidV w) false (World.doorLaid Tryd.prog 400 os) #[.agg #[.int .i64 0, .int .i64 0, .int .i64 0, .int .i64 0, .int .i64 0, .slice none 0 0], .agg #[.int .i64 0, .int .i64 0, .int .i64 0, .int .i64 0, .int .i64 0, .slice none 0 0], .slice none 0 0, .int .i64 0, .int .i64 0] 8 rfl (World.shaped_of_RefB (by kernel_rfl) (by kernel_rfl)) (by kernel_rfl) (by kernel_rfl) (by kernel_rfl) (door_met os _)) ?_
  intro W base args ds gs before hval0 hW _ _ hL _
  have hval : ∀ (j : Nat) t v, Tryd.f7.params[j]? = some t → args[j]? = some v → Value.okWide Tryd.prog W .any base t v := hval0
  have hW' := hW
  obtain ⟨p, q, hA0, hV, rfl, hfz, hnd⟩ := hW
  have hA : DataW.TrodAll enc Tryd.prog W 0 (fun _ => true) true Tryd.f7.params.toList args.toList ds p := hA0
  rw [Tryd.params7] at hA hval
  obtain ⟨v0, vs0, d0, ds0, p0, q0, hargs, rfl, rfl, h0, r0⟩ := trodAll_cons hA
  obtain ⟨v1, vs1, d1, ds1, p1, q1, rfl, rfl, rfl, h1, r1⟩ := trodAll_cons r0
  obtain ⟨v2, vs2, d2, ds2, p2, q2, rfl, rfl, rfl, h2, r2⟩ := trodAll_cons r1
  obtain ⟨v3, vs3, d3, ds3, p3, q3, rfl, rfl, rfl, h3, r3⟩ := trodAll_cons r2
  obtain ⟨v4, vs4, d4, ds4, p4, q4, rfl, rfl, rfl, h4, r4⟩ := trodAll_cons r3
  obtain ⟨rfl, rfl, rfl⟩ := trodAll_nil r4
  obtain rfl : args = #[v0, v1, v2, v3, v4] := by cases args; simp_all
  obtain ⟨rfl, rfl⟩ := trodVars_none hV
  have k0 := h0
  have lt0 : ∀ x ∈ p0, x.block < W.heap.size := by obtain ⟨m, hm⟩ := k0; exact DataW.trod_lt m _ _ _ hm
  obtain ⟨c0, a0, cap0, rfl, w0, i0a, i0b, i0c, i0d, i0e⟩ := open_conf (hval 0 24 v0 rfl rfl) h0
  have k1 := h1
  have lt1 : ∀ x ∈ p1, x.block < W.heap.size := by obtain ⟨m, hm⟩ := k1; exact DataW.trod_lt m _ _ _ hm
  obtain ⟨c1, a1, cap1, rfl, w1, i1a, i1b, i1c, i1d, i1e⟩ := open_frame (hval 1 29 v1 rfl rfl) h1
  have k2 := h2
  have lt2 : ∀ x ∈ p2, x.block < W.heap.size := by obtain ⟨m, hm⟩ := k2; exact DataW.trod_lt m _ _ _ hm
  obtain ⟨a2, len2, cap2, rfl⟩ := okWide_slice Tryd.underlying22 (hval 2 22 v2 rfl rfl)
  obtain ⟨z2, e2, w2⟩ : ∃ zs : List Int, len2 = zs.length ∧ Row W a2 zs := by
    obtain ⟨fuel, hf⟩ := h2
    rcases open_ints Tryd.underlying22 Tryd.underlying3 (by kernel_rfl) hf with ⟨hcs, _⟩ | ⟨x, l, c, zs, hcs, _, hl, hm, hz, _, hcell, hwz⟩
    · simp [Value.cells] at hcs
      obtain ⟨rfl, rfl, rfl⟩ := hcs
      exact row_nil W
    · simp [Value.cells] at hcs
      obtain ⟨rfl, rfl, rfl⟩ := hcs
      exact row_of hl hm (by rw [hz]; split <;> omega) hcell hwz
  subst e2
  obtain ⟨a3, rfl, rfl, rfl, w3⟩ := open_int Tryd.underlying3 (hval 3 3 v3 rfl rfl) h3
  obtain ⟨a4, rfl, rfl, rfl, w4⟩ := open_int Tryd.underlying3 (hval 4 3 v4 rfl rfl) h4
  clear hA0 hval0
  refine (arbRounds_walk c0 a0 cap0 c1 a1 cap1 a2 z2 cap2 a3 a4 W (of_laid hL) w0 i0a i0b i0c i0d i0e w1 i1a i1b i1c i1d i1e w2 (wf_lo w3) (wf_hi w3) (wf_lo w4) (wf_hi w4)).mono fun e W' ⟨he, bel⟩ => ?_
  subst he
  exact ⟨_, rfl, _, _, _, [], _, [], hW', trodAll_mk1 (shut_bool Tryd.underlying4 _), (trodAll_cons_mk (Below.trod laidOut (by kernel_rfl) (of_decide_eq_true (by kernel_rfl)) k0 bel lt0) (trodAll_cons_mk (Below.trod laidOut (by kernel_rfl) (of_decide_eq_true (by kernel_rfl)) k1 bel lt1) (trodAll_cons_mk (Below.trod laidOut (by kernel_rfl) (of_decide_eq_true (by kernel_rfl)) k2 bel lt2) (trodAll_cons_mk (shut_int Tryd.underlying3 w3) (trodAll_cons_mk (shut_int Tryd.underlying3 w4) trodAll_mk0))))), rfl, bel.frame _, fun h => by cases h⟩

theorem arbRounds_over : Rows.arbRoundsRow.holds Tryd.pinned (OpenSpec.ofChange Rows.arbRoundsSpec) :=
  OpenClaim.holds_of_wide 7 Tryd.f7 rfl rfl rfl rfl rfl rfl rfl ⟨rfl, rfl, rfl, rfl, rfl⟩ rfl rfl rfl rfl rfl (by kernel_rfl) Tryd.func7 (by kernel_rfl)
    (of_decide_eq_true (by kernel_rfl)) (by unfold Func.isWrapper; first | (rw [if_pos (by decide +kernel)]; kernel_rfl) | (rw [if_neg (by decide +kernel)]; exact ⟨rfl, rfl⟩))
    (fun os started H enc _ => arbRounds_lifted os started H enc)

theorem arbRounds_holds : Rows.ArbRoundsCardSaid :=
  Claim7.holds_tied_plain_at .later [] [.wider] true (true, "006ea62dc85fac090e9905e82acde7d14dedde7539dceda8060da74993108850") true
    arbRounds_over (fun _ h => by cases h) (by kernel_rfl) (fun _ h => by cases h) arbRounds_row_tie rfl ⟨rfl, rfl⟩ (by kernel_rfl) rfl
    (fun f fn hf hfn => by
      obtain rfl : f = 7 := Option.some.inj ((show Tryd.prog.funcNamed Tryd.f7.name = some 7 by kernel_rfl).symm.trans hf) |>.symm
      obtain rfl : fn = Tryd.f7 := (Option.some.inj (Tryd.func7.symm.trans hfn)).symm
      exact ⟨by kernel_rfl, fun j t ht => by
        rw [Tryd.params7] at ht
        have hm : t ∈ [24, 29, 22, 3, 3] := by
          have := Array.mem_of_getElem? ht
          simpa using this
        have hall : ([24, 29, 22, 3, 3].all fun u => !Tryd.prog.wantsStandIn u) = true := by kernel_rfl
        exact (show Tryd.prog.wantsStandIn t = false by simpa using List.all_eq_true.1 hall t hm)⟩)
    (by kernel_rfl)
#print axioms arbRounds_holds
end Go.Proofs.YthhmedlefahccabDoor

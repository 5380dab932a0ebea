/-
  FrameSame's walk.
-/
import Derived.Test.YtafcjdcmbklfkaaLaw53
import Derived.Test.YtafcjdcmbklfkaaSlots3
namespace Go.Proofs.Ytafcjdcmbklfkaa
open Go.RowKit Plait
set_option linter.unusedVariables false
set_option linter.unusedSimpArgs false

set_option maxRecDepth 100000 in
set_option maxHeartbeats 6400000 in
theorem frameSame_walk (c : Cf) (a : Option Addr) (cap : Nat) (f : Fr) (fa : Option Addr) (fc : Nat) (g : Fr) (ga : Option Addr) (gc : Nat) (na : Option Addr) (ns : List Int) (nc : Nat) (ma : Option Addr) (ms : List Int) (mc : Nat) (w : World) (hrow : Row w a c.P) (iN : inI c.N) (iP : inI c.Pi) (iE : inI c.E) (iG : inI c.G) (iF : inI c.F)
    (hfE : RowT w fa f.E) (iK : inI f.K) (iR : inI f.R) (iS : inI f.S) (iQ : inI f.P.K) (iV : inI f.P.V) (hgE : RowT w ga g.E) (jK : inI g.K) (jR : inI g.R) (jS : inI g.S) (jQ : inI g.P.K) (jV : inI g.P.V) (hns : Row w na ns) (hms : Row w ma ms) :
    Calls Try.prog 6 #[.agg #[.int .i64 c.N, .int .i64 c.Pi, .int .i64 c.E, .int .i64 c.G, .int .i64 c.F, .slice a c.P.length cap], .agg #[.int .i64 f.K, .int .i64 f.R, .int .i64 f.S, .int .i64 f.P.K, .int .i64 f.P.V, .slice fa f.E.length fc], .agg #[.int .i64 g.K, .int .i64 g.R, .int .i64 g.S, .int .i64 g.P.K, .int .i64 g.P.V, .slice ga g.E.length gc], .slice na ns.length nc, .slice ma ms.length mc] w fun e w' => e = .returned (.bool true) ∧ Below w.heap.size w w' := by
  have hB1 : Below w.heap.size w (w.alloc (.cells #[.int .i64 c.N, .int .i64 c.Pi, .int .i64 c.E, .int .i64 c.G, .int .i64 c.F, .slice a c.P.length cap] 24)) := alloc_below w _
  have k_c : Blk (w.alloc (.cells #[.int .i64 c.N, .int .i64 c.Pi, .int .i64 c.E, .int .i64 c.G, .int .i64 c.F, .slice a c.P.length cap] 24)) w.heap.size 24 (confBox c a cap) := Blk.newAt _ _ rfl
  have hB2 : Below w.heap.size w ((w.alloc (.cells #[.int .i64 c.N, .int .i64 c.Pi, .int .i64 c.E, .int .i64 c.G, .int .i64 c.F, .slice a c.P.length cap] 24)).alloc (.cells #[.int .i64 f.K, .int .i64 f.R, .int .i64 f.S, .int .i64 f.P.K, .int .i64 f.P.V, .slice fa f.E.length fc] 29)) := hB1.alloc hB1.size _
  replace k_c := k_c.alloc (.cells #[.int .i64 f.K, .int .i64 f.R, .int .i64 f.S, .int .i64 f.P.K, .int .i64 f.P.V, .slice fa f.E.length fc] 29)
  have k_f : Blk ((w.alloc (.cells #[.int .i64 c.N, .int .i64 c.Pi, .int .i64 c.E, .int .i64 c.G, .int .i64 c.F, .slice a c.P.length cap] 24)).alloc (.cells #[.int .i64 f.K, .int .i64 f.R, .int .i64 f.S, .int .i64 f.P.K, .int .i64 f.P.V, .slice fa f.E.length fc] 29)) (w.heap.size + 1) 29 (frBox f fa fc) := Blk.newAt _ _ (by simp)
  have hB3 : Below w.heap.size w (((w.alloc (.cells #[.int .i64 c.N, .int .i64 c.Pi, .int .i64 c.E, .int .i64 c.G, .int .i64 c.F, .slice a c.P.length cap] 24)).alloc (.cells #[.int .i64 f.K, .int .i64 f.R, .int .i64 f.S, .int .i64 f.P.K, .int .i64 f.P.V, .slice fa f.E.length fc] 29)).alloc (.cells #[.int .i64 g.K, .int .i64 g.R, .int .i64 g.S, .int .i64 g.P.K, .int .i64 g.P.V, .slice ga g.E.length gc] 29)) := hB2.alloc hB2.size _
  replace k_c := k_c.alloc (.cells #[.int .i64 g.K, .int .i64 g.R, .int .i64 g.S, .int .i64 g.P.K, .int .i64 g.P.V, .slice ga g.E.length gc] 29)
  replace k_f := k_f.alloc (.cells #[.int .i64 g.K, .int .i64 g.R, .int .i64 g.S, .int .i64 g.P.K, .int .i64 g.P.V, .slice ga g.E.length gc] 29)
  have k_g : Blk (((w.alloc (.cells #[.int .i64 c.N, .int .i64 c.Pi, .int .i64 c.E, .int .i64 c.G, .int .i64 c.F, .slice a c.P.length cap] 24)).alloc (.cells #[.int .i64 f.K, .int .i64 f.R, .int .i64 f.S, .int .i64 f.P.K, .int .i64 f.P.V, .slice fa f.E.length fc] 29)).alloc (.cells #[.int .i64 g.K, .int .i64 g.R, .int .i64 g.S, .int .i64 g.P.K, .int .i64 g.P.V, .slice ga g.E.length gc] 29)) (w.heap.size + 2) 29 (frBox g ga gc) := Blk.newAt _ _ (by simp)
  have hB := hB3
  clear hB1 hB2 hB3
  go_enter Try.func6, Try.ntmps6
  go_wp2_with fail
  refine (known5_any _).mono ?_
  rintro e wn ⟨rfl, hb⟩
  replace hB := hB.trans (hb.mono hB.size)
  replace k_c := k_c.later hb
  replace k_f := k_f.later hb
  replace k_g := k_g.later hb
  clear hb
  have qC := k_c.at
  unfold confBox at qC
  go_wp2_with fail
  refine (make_any c a cap _ (hrow.later hB)).mono ?_
  rintro e wm ⟨da, dc, rfl, hrd, hfd, hb⟩
  replace hB := hB.trans (hb.mono hB.size)
  replace k_f := k_f.later hb
  replace k_g := k_g.later hb
  clear hb qC k_c hfd
  have hok := makeC_ok c
  generalize makeC c = d at *
  have hD : Blk (wm.alloc (.cells #[.int .i64 d.N, .int .i64 d.Pi, .int .i64 d.E, .int .i64 d.G, .int .i64 d.F, .slice da d.P.length dc] 24)) wm.heap.size 24 (confBox d da dc) := Blk.new wm _ _
  replace hB := hB.alloc hB.size (.cells #[.int .i64 d.N, .int .i64 d.Pi, .int .i64 d.E, .int .i64 d.G, .int .i64 d.F, .slice da d.P.length dc] 24)
  replace k_f := k_f.alloc (.cells #[.int .i64 d.N, .int .i64 d.Pi, .int .i64 d.E, .int .i64 d.G, .int .i64 d.F, .slice da d.P.length dc] 24)
  replace k_g := k_g.alloc (.cells #[.int .i64 d.N, .int .i64 d.Pi, .int .i64 d.E, .int .i64 d.G, .int .i64 d.F, .slice da d.P.length dc] 24)
  replace hrd := hrd.alloc (.cells #[.int .i64 d.N, .int .i64 d.Pi, .int .i64 d.E, .int .i64 d.G, .int .i64 d.F, .slice da d.P.length dc] 24)
  go_upto_region 4 with fail
  generalize wm.alloc (.cells #[.int .i64 d.N, .int .i64 d.Pi, .int .i64 d.E, .int .i64 d.G, .int .i64 d.F, .slice da d.P.length dc] 24) = wn at *
  generalize wm.heap.size = db at *
  have hokf := makeF_ok d f ns hok
  have hokg := makeF_ok d g ms hok
  replace hns := hns.later hB
  replace hms := hms.later hB
  refine region_slots [some 19, some 20, some 21, some 22, some 23, some 24, some 25, some 26, some 12, some 13, none, none] [none, none, none, none, none, none, none, none, none, none, some 8, some 9] 53 [(3, .slice na ns.length nc), (4, .slice ma ms.length mc), (6, .pointer (some ⟨w.heap.size + 1, 0, none⟩)), (7, .pointer (some ⟨w.heap.size + 2, 0, none⟩)), (10, .bool false), (11, .pointer (some ⟨db, 0, none⟩))] (by kernel_rfl) (by kernel_rfl) ⟨by rfl, by rfl, by intro k v hk; simp only [List.mem_cons, List.not_mem_nil, or_false, Prod.mk.injEq] at hk; rcases hk with ⟨rfl, rfl⟩ | ⟨rfl, rfl⟩ | ⟨rfl, rfl⟩ | ⟨rfl, rfl⟩ | ⟨rfl, rfl⟩ | ⟨rfl, rfl⟩ <;> rfl⟩ ?_
  apply step_fix
  · intro a W Zs hS hFm hz hd
    have h11 := ev_get hFm.size (hFm.old 11 (.pointer (some ⟨db, 0, none⟩)) (by simp))
    have hq := (hD.drew1.later hS).at
    unfold confBox at hq
    refine .inl ⟨wanted_none rfl _, fun K hK => ?_⟩
    have HK := Lib.hid hK
    clear hd hFm hK
    go_simp
    exact HK.out _ _ rfl (Below.refl _ _)
  simp only [List.nil_append, List.cons_append]
  apply step_fix
  · intro a W Zs hS hFm hz hd
    have h6 := ev_get hFm.size (hFm.old 6 (.pointer (some ⟨w.heap.size + 1, 0, none⟩)) (by simp))
    have hq := (k_f.drew1.later hS).at
    unfold frBox at hq
    refine .inl ⟨wanted_none rfl _, fun K hK => ?_⟩
    have HK := Lib.hid hK
    clear hd hFm hK
    go_simp
    exact HK.out _ _ rfl (Below.refl _ _)
  simp only [List.nil_append, List.cons_append]
  apply step_fix
  · intro a W Zs hS hFm hz hd
    have h3 := ev_get hFm.size (hFm.old 3 (.slice na ns.length nc) (by simp))
    refine .inl ⟨wanted_none rfl _, fun K hK => ?_⟩
    have HK := Lib.hid hK
    clear hd hFm hK
    go_simp
    exact HK.out _ _ rfl (Below.refl _ _)
  simp only [List.nil_append, List.cons_append]
  refine step_of (frF _ ((makeF d f ns))) (frF_good _ _) ?_ ?_
  · intro a W Zs hS hFm hz hd
    have h19 := ev_get hFm.size (hd 0 19 rfl rfl)
    have h20 := ev_get hFm.size (hd 1 20 rfl rfl)
    have h21 := ev_get hFm.size (hd 2 21 rfl rfl)
    refine .inl ⟨wanted_none rfl _, fun K hK => ?_⟩
    have HK := Lib.hid hK
    clear hd hFm hK
    go_simp
    refine (make5_any d da dc f fa fc na ns nc _ hok (hns.drew1.later hS) iK iR iS iV).mono ?_
    rintro e W' ⟨ra, rc, rfl, hr, hfr, hb⟩
    exact HK.out _ _ ⟨ra, rc, rfl, hr, hr.foot hfr⟩ hb
  simp only [List.nil_append, List.cons_append]
  apply step_fix
  · intro a W Zs hS hFm hz hd
    have h11 := ev_get hFm.size (hFm.old 11 (.pointer (some ⟨db, 0, none⟩)) (by simp))
    have hq := (hD.drew1.later hS).at
    unfold confBox at hq
    refine .inl ⟨wanted_none rfl _, fun K hK => ?_⟩
    have HK := Lib.hid hK
    clear hd hFm hK
    go_simp
    exact HK.out _ _ rfl (Below.refl _ _)
  simp only [List.nil_append, List.cons_append]
  apply step_fix
  · intro a W Zs hS hFm hz hd
    have h7 := ev_get hFm.size (hFm.old 7 (.pointer (some ⟨w.heap.size + 2, 0, none⟩)) (by simp))
    have hq := (k_g.drew1.later hS).at
    unfold frBox at hq
    refine .inl ⟨wanted_none rfl _, fun K hK => ?_⟩
    have HK := Lib.hid hK
    clear hd hFm hK
    go_simp
    exact HK.out _ _ rfl (Below.refl _ _)
  simp only [List.nil_append, List.cons_append]
  apply step_fix
  · intro a W Zs hS hFm hz hd
    have h4 := ev_get hFm.size (hFm.old 4 (.slice ma ms.length mc) (by simp))
    refine .inl ⟨wanted_none rfl _, fun K hK => ?_⟩
    have HK := Lib.hid hK
    clear hd hFm hK
    go_simp
    exact HK.out _ _ rfl (Below.refl _ _)
  simp only [List.nil_append, List.cons_append]
  refine step_of (frF _ ((makeF d g ms))) (frF_good _ _) ?_ ?_
  · intro a W Zs hS hFm hz hd
    have h23 := ev_get hFm.size (hd 4 23 rfl rfl)
    have h24 := ev_get hFm.size (hd 5 24 rfl rfl)
    have h25 := ev_get hFm.size (hd 6 25 rfl rfl)
    refine .inl ⟨wanted_none rfl _, fun K hK => ?_⟩
    have HK := Lib.hid hK
    clear hd hFm hK
    go_simp
    refine (make5_any d da dc g ga gc ma ms mc _ hok (hms.drew1.later hS) jK jR jS jV).mono ?_
    rintro e W' ⟨ra, rc, rfl, hr, hfr, hb⟩
    exact HK.out _ _ ⟨ra, rc, rfl, hr, hr.foot hfr⟩ hb
  simp only [List.nil_append, List.cons_append]
  refine step_of (boxF _ 29 6) (boxF_good _ _ _) ?_ ?_
  · intro a W Zs hS hFm hz hd
    refine .inl ⟨wanted_none rfl _, fun K hK => ?_⟩
    have HK := Lib.hid hK
    clear hd hFm hK
    go_simp
    exact HK.out _ _ ⟨_, _, rfl, rfl, Blk.new _ _ _, .inl ⟨Nat.le_refl _, by simp⟩⟩ (alloc_below _ _)
  simp only [List.nil_append, List.cons_append]
  refine step_of (boxF _ 29 6) (boxF_good _ _ _) ?_ ?_
  · intro a W Zs hS hFm hz hd
    refine .inl ⟨wanted_none rfl _, fun K hK => ?_⟩
    have HK := Lib.hid hK
    clear hd hFm hK
    go_simp
    exact HK.out _ _ ⟨_, _, rfl, rfl, Blk.new _ _ _, .inl ⟨Nat.le_refl _, by simp⟩⟩ (alloc_below _ _)
  simp only [List.nil_append, List.cons_append]
  refine step_of (frBoxF _ ((makeF d f ns))) (frBoxF_good _ _) ?_ ?_
  · intro a W Zs hS hFm hz hd hap
    obtain ⟨b12, cs12, e12, n12, q12, z12⟩ := hd 8 12 rfl rfl
    have h12 := ev_get hFm.size e12
    obtain ⟨a22, c22, e22, r22, f22⟩ := hd 3 22 rfl rfl
    have h22 := ev_get hFm.size e22
    have hB0 := (hz 8 _ rfl z12).1
    obtain ⟨u0, u1, u2, u3, u4, u5, rfl⟩ := arr6 n12
    have hq := q12.at
    have hfz := q12.frozen
    refine ⟨wanted_none rfl _, b12, z12, fun K hK => ?_⟩
    have HK := Lib.hid hK
    clear hd hFm hK
    go_simp
    exact HK.out undef _ (Only.fill6 _ _ _ _ _ _ _ _) (fun d hd' => by injection hd' with hd'; subst hd'; exact ⟨⟨b12, a22, c22, e12, q12.fill6 _ _ _ _ _ _, r22.agree f22 (store_apart (Only.fill6 W b12 _ _ _ _ _ _) hB0 z12 hap 3 rfl (by decide)), .inr (.inl rfl), ft_mono f22 (foot_depS 3 rfl rfl rfl)⟩, ⟨b12, _, e12, rfl, q12.fill6 _ _ _ _ _ _, z12⟩⟩)
  simp only [List.nil_append, List.cons_append]
  refine step_of (frBoxF _ ((makeF d g ms))) (frBoxF_good _ _) ?_ ?_
  · intro a W Zs hS hFm hz hd hap
    obtain ⟨b13, cs13, e13, n13, q13, z13⟩ := hd 9 13 rfl rfl
    have h13 := ev_get hFm.size e13
    obtain ⟨a26, c26, e26, r26, f26⟩ := hd 7 26 rfl rfl
    have h26 := ev_get hFm.size e26
    have hB0 := (hz 9 _ rfl z13).1
    obtain ⟨u0, u1, u2, u3, u4, u5, rfl⟩ := arr6 n13
    have hq := q13.at
    have hfz := q13.frozen
    refine ⟨wanted_none rfl _, b13, z13, fun K hK => ?_⟩
    have HK := Lib.hid hK
    clear hd hFm hK
    go_simp
    exact HK.out undef _ (Only.fill6 _ _ _ _ _ _ _ _) (fun d hd' => by injection hd' with hd'; subst hd'; exact ⟨⟨b13, a26, c26, e13, q13.fill6 _ _ _ _ _ _, r26.agree f26 (store_apart (Only.fill6 W b13 _ _ _ _ _ _) hB0 z13 hap 7 rfl (by decide)), .inr (.inl rfl), ft_mono f26 (foot_depS 7 rfl rfl rfl)⟩, ⟨b13, _, e13, rfl, q13.fill6 _ _ _ _ _ _, z13⟩⟩)
  simp only [List.nil_append, List.cons_append]
  intro a w2 Zs hS hFm hz hd
  obtain ⟨b12, a12, c12, e12, q12, r12, f12, g12⟩ := hd 10 12 rfl
  obtain ⟨b13, a13, c13, e13, q13, r13, f13, g13⟩ := hd 11 13 rfl
  have e3 := hFm.old 3 (.slice na ns.length nc) (by simp)
  have e4 := hFm.old 4 (.slice ma ms.length mc) (by simp)
  have e6 := hFm.old 6 (.pointer (some ⟨w.heap.size + 1, 0, none⟩)) (by simp)
  have e7 := hFm.old 7 (.pointer (some ⟨w.heap.size + 2, 0, none⟩)) (by simp)
  have e10 := hFm.old 10 (.bool false) (by simp)
  have e11 := hFm.old 11 (.pointer (some ⟨db, 0, none⟩)) (by simp)
  have hsz := hFm.size
  have hdf := hFm.defers
  clear hd hFm
  obtain ⟨t, df⟩ := a
  simp only at hsz hdf
  subst hdf
  obtain ⟨x, hx⟩ : ∃ x : Nat → Value, ∀ i, t.getD i undef = x i := ⟨fun i => t.getD i undef, fun _ => rfl⟩
  have h12 := (hx 12).symm.trans e12
  have h13 := (hx 13).symm.trans e13
  have h3 := (hx 3).symm.trans e3
  have h4 := (hx 4).symm.trans e4
  have h6 := (hx 6).symm.trans e6
  have h7 := (hx 7).symm.trans e7
  have h10 := (hx 10).symm.trans e10
  have h11 := (hx 11).symm.trans e11
  have ht' : t = #[x 0, x 1, x 2, x 3, x 4, x 5, x 6, x 7, x 8, x 9, x 10, x 11, x 12, x 13, x 14, x 15, x 16, x 17, x 18, x 19, x 20, x 21, x 22, x 23, x 24, x 25, x 26, x 27, x 28, x 29, x 30, x 31, x 32, x 33, x 34, x 35, x 36, x 37, x 38, x 39, x 40, x 41, x 42, x 43, x 44, x 45, x 46, x 47, x 48, x 49, x 50, x 51, x 52] := frame_lit t 53 hsz x hx
  clear hx hsz hz e12 e13 e3 e4 e6 e7 e10 e11
  subst ht'
  dsimp only
  rw [h12, h13, h3, h4, h6, h7, h10, h11]
  clear h12 h13 h3 h4 h6 h7 h10 h11
  have hb2 := from_drew hS
  replace hB := hB.trans (hb2.mono hB.size)
  replace hD := hD.later hb2
  clear hS hb2 k_f k_g hns hms f12 g12 f13 g13 hrd
  generalize makeF d f ns = x1 at *
  generalize makeF d g ms = x2 at *
  have HT1 := Lib.hid (fun W (h : RowT W a12 x1.E) => fText_ok d da dc x1 a12 c12 W hok hokf h)
  have HT2 := Lib.hid (fun W (h : RowT W a13 x2.E) => fText_ok d da dc x2 a13 c13 W hok hokg h)
  have hdec : decide (textF x1 = textF x2) = decide (x1 = x2) := by
    by_cases e : x1 = x2
    · rw [e]; simp
    · rw [decide_eq_false e, decide_eq_false (fun h => e (textF_inj d x1 x2 hok hokf hokg h))]
  generalize textF x1 = l1 at *
  generalize textF x2 = l2 at *
  go_upto_region 5 with fail
  refine region_slots [some 27, some 28, some 29, some 30, some 31, some 32, some 33, some 14] [none, none, none, none, none, none, none, none] 53 [(10, .bool false), (11, .pointer (some ⟨db, 0, none⟩)), (12, .pointer (some ⟨b12, 0, none⟩)), (13, .pointer (some ⟨b13, 0, none⟩))] (by kernel_rfl) (by kernel_rfl) ⟨by rfl, by rfl, by intro k v hk; simp only [List.mem_cons, List.not_mem_nil, or_false, Prod.mk.injEq] at hk; rcases hk with ⟨rfl, rfl⟩ | ⟨rfl, rfl⟩ | ⟨rfl, rfl⟩ | ⟨rfl, rfl⟩ <;> rfl⟩ ?_
  apply step_fix
  · intro a W Zs hS hFm hz hd
    have h11 := ev_get hFm.size (hFm.old 11 (.pointer (some ⟨db, 0, none⟩)) (by simp))
    have hq := (hD.drew1.later hS).at
    unfold confBox at hq
    refine .inl ⟨wanted_none rfl _, fun K hK => ?_⟩
    have HK := Lib.hid hK
    clear hd hFm hK
    go_simp
    exact HK.out _ _ rfl (Below.refl _ _)
  simp only [List.nil_append, List.cons_append]
  apply step_fix
  · intro a W Zs hS hFm hz hd
    have h12 := ev_get hFm.size (hFm.old 12 (.pointer (some ⟨b12, 0, none⟩)) (by simp))
    have hq := (q12.drew1.later hS).at
    unfold frBox at hq
    refine .inl ⟨wanted_none rfl _, fun K hK => ?_⟩
    have HK := Lib.hid hK
    clear hd hFm hK
    go_simp
    exact HK.out _ _ rfl (Below.refl _ _)
  simp only [List.nil_append, List.cons_append]
  apply step_fix
  · intro a W Zs hS hFm hz hd
    have h27 := ev_get hFm.size (hd 0 27 rfl rfl)
    have h28 := ev_get hFm.size (hd 1 28 rfl rfl)
    refine .inl ⟨wanted_none rfl _, fun K hK => ?_⟩
    have HK := Lib.hid hK
    clear hd hFm hK
    go_simp
    refine (HT1.out _ (r12.drew1.later hS)).mono ?_
    rintro e W' ⟨rfl, hb⟩
    exact HK.out _ _ rfl hb
  simp only [List.nil_append, List.cons_append]
  apply step_fix
  · intro a W Zs hS hFm hz hd
    have h11 := ev_get hFm.size (hFm.old 11 (.pointer (some ⟨db, 0, none⟩)) (by simp))
    have hq := (hD.drew1.later hS).at
    unfold confBox at hq
    refine .inl ⟨wanted_none rfl _, fun K hK => ?_⟩
    have HK := Lib.hid hK
    clear hd hFm hK
    go_simp
    exact HK.out _ _ rfl (Below.refl _ _)
  simp only [List.nil_append, List.cons_append]
  apply step_fix
  · intro a W Zs hS hFm hz hd
    have h13 := ev_get hFm.size (hFm.old 13 (.pointer (some ⟨b13, 0, none⟩)) (by simp))
    have hq := (q13.drew1.later hS).at
    unfold frBox at hq
    refine .inl ⟨wanted_none rfl _, fun K hK => ?_⟩
    have HK := Lib.hid hK
    clear hd hFm hK
    go_simp
    exact HK.out _ _ rfl (Below.refl _ _)
  simp only [List.nil_append, List.cons_append]
  apply step_fix
  · intro a W Zs hS hFm hz hd
    have h30 := ev_get hFm.size (hd 3 30 rfl rfl)
    have h31 := ev_get hFm.size (hd 4 31 rfl rfl)
    refine .inl ⟨wanted_none rfl _, fun K hK => ?_⟩
    have HK := Lib.hid hK
    clear hd hFm hK
    go_simp
    refine (HT2.out _ (r13.drew1.later hS)).mono ?_
    rintro e W' ⟨rfl, hb⟩
    exact HK.out _ _ rfl hb
  simp only [List.nil_append, List.cons_append]
  apply step_fix
  · intro a W Zs hS hFm hz hd
    have h29 := ev_get hFm.size (hd 2 29 rfl rfl)
    have h32 := ev_get hFm.size (hd 5 32 rfl rfl)
    refine .inl ⟨wanted_none rfl _, fun K hK => ?_⟩
    have HK := Lib.hid hK
    clear hd hFm hK
    go_simp
    exact HK.out _ _ rfl (Below.refl _ _)
  simp only [List.nil_append, List.cons_append]
  apply step_fix
  · intro a W Zs hS hFm hz hd
    have h33 := ev_get hFm.size (hd 6 33 rfl rfl)
    refine .inl ⟨wanted_none rfl _, fun K hK => ?_⟩
    have HK := Lib.hid hK
    clear hd hFm hK
    go_simp
    exact HK.out _ _ rfl (Below.refl _ _)
  simp only [List.nil_append, List.cons_append]
  intro a w3 Zs hS hFm hz hd
  have e14 := hd 7 14 rfl
  have e10 := hFm.old 10 (.bool false) (by simp)
  have e11 := hFm.old 11 (.pointer (some ⟨db, 0, none⟩)) (by simp)
  have e12 := hFm.old 12 (.pointer (some ⟨b12, 0, none⟩)) (by simp)
  have e13 := hFm.old 13 (.pointer (some ⟨b13, 0, none⟩)) (by simp)
  have hsz := hFm.size
  have hdf := hFm.defers
  clear hd hFm
  obtain ⟨t, df⟩ := a
  simp only at hsz hdf
  subst hdf
  obtain ⟨x, hx⟩ : ∃ x : Nat → Value, ∀ i, t.getD i undef = x i := ⟨fun i => t.getD i undef, fun _ => rfl⟩
  have h14 := (hx 14).symm.trans e14
  have h10 := (hx 10).symm.trans e10
  have h11 := (hx 11).symm.trans e11
  have h12 := (hx 12).symm.trans e12
  have h13 := (hx 13).symm.trans e13
  have ht' : t = #[x 0, x 1, x 2, x 3, x 4, x 5, x 6, x 7, x 8, x 9, x 10, x 11, x 12, x 13, x 14, x 15, x 16, x 17, x 18, x 19, x 20, x 21, x 22, x 23, x 24, x 25, x 26, x 27, x 28, x 29, x 30, x 31, x 32, x 33, x 34, x 35, x 36, x 37, x 38, x 39, x 40, x 41, x 42, x 43, x 44, x 45, x 46, x 47, x 48, x 49, x 50, x 51, x 52] := frame_lit t 53 hsz x hx
  clear hx hsz hz e14 e10 e11 e12 e13
  subst ht'
  dsimp only
  rw [h14, h10, h11, h12, h13]
  clear h14 h10 h11 h12 h13
  have hb2 := from_drew hS
  replace hB := hB.trans (hb2.mono hB.size)
  replace q12 := q12.later hb2
  replace q13 := q13.later hb2
  replace r12 := r12.later hb2
  replace r13 := r13.later hb2
  clear hS hb2 hD HT1 HT2
  have hbeq : (l1 == l2) = decide (x1 = x2) := by rw [← hdec, Bool.eq_iff_iff]; simp
  rw [hbeq]
  clear hbeq hdec
  have HS1 := Lib.hid (fun W (h1 : RowT W a12 x1.E) (h2 : RowT W a13 x2.E) => fSame_any x1 x2 a12 a13 c12 c13 W h1 h2)
  have HS2 := Lib.hid (fun W (h1 : RowT W a12 x1.E) (h2 : RowT W a13 x2.E) => rSame5_any x1 x2 a12 a13 c12 c13 W h1 h2)
  have HS3 := Lib.hid (fun W (h1 : RowT W a12 x1.E) => fSame_any x1 x1 a12 a12 c12 c12 W h1 h1)
  rw [decide_eq_true (rfl : x1 = x1)] at HS3
  generalize decide (x1 = x2) = bb at *
  go_upto_region 6 with fail
  refine region_slots [some 34, some 35, some 36, some 37, some 38, some 39, some 40, some 41, some 42, some 43, some 44, some 45, some 46, some 47, some 48, some 49, some 50, some 51, some 52, some 10] [none, none, none, none, none, none, none, none, none, none, none, none, none, none, none, none, none, none, none, none] 53 [(12, .pointer (some ⟨b12, 0, none⟩)), (13, .pointer (some ⟨b13, 0, none⟩)), (14, .bool bb)] (by kernel_rfl) (by kernel_rfl) ⟨by rfl, by rfl, by intro k v hk; simp only [List.mem_cons, List.not_mem_nil, or_false, Prod.mk.injEq] at hk; rcases hk with ⟨rfl, rfl⟩ | ⟨rfl, rfl⟩ | ⟨rfl, rfl⟩ <;> rfl⟩ ?_
  apply step_fix
  · intro a W Zs hS hFm hz hd
    have h12 := ev_get hFm.size (hFm.old 12 (.pointer (some ⟨b12, 0, none⟩)) (by simp))
    have hq := (q12.drew1.later hS).at
    unfold frBox at hq
    refine .inl ⟨wanted_none rfl _, fun K hK => ?_⟩
    have HK := Lib.hid hK
    clear hd hFm hK
    go_simp
    exact HK.out _ _ rfl (Below.refl _ _)
  simp only [List.nil_append, List.cons_append]
  apply step_fix
  · intro a W Zs hS hFm hz hd
    have h13 := ev_get hFm.size (hFm.old 13 (.pointer (some ⟨b13, 0, none⟩)) (by simp))
    have hq := (q13.drew1.later hS).at
    unfold frBox at hq
    refine .inl ⟨wanted_none rfl _, fun K hK => ?_⟩
    have HK := Lib.hid hK
    clear hd hFm hK
    go_simp
    exact HK.out _ _ rfl (Below.refl _ _)
  simp only [List.nil_append, List.cons_append]
  apply step_fix
  · intro a W Zs hS hFm hz hd
    have h34 := ev_get hFm.size (hd 0 34 rfl rfl)
    have h35 := ev_get hFm.size (hd 1 35 rfl rfl)
    refine .inl ⟨wanted_none rfl _, fun K hK => ?_⟩
    have HK := Lib.hid hK
    clear hd hFm hK
    go_simp
    refine (HS1.out _ (r12.drew1.later hS) (r13.drew1.later hS)).mono ?_
    rintro e W' ⟨rfl, hb⟩
    exact HK.out _ _ rfl hb
  simp only [List.nil_append, List.cons_append]
  apply step_fix
  · intro a W Zs hS hFm hz hd
    have h14 := ev_get hFm.size (hFm.old 14 (.bool bb) (by simp))
    refine .inl ⟨wanted_none rfl _, fun K hK => ?_⟩
    have HK := Lib.hid hK
    clear hd hFm hK
    go_simp
    exact HK.out _ _ rfl (Below.refl _ _)
  simp only [List.nil_append, List.cons_append]
  apply step_fix
  · intro a W Zs hS hFm hz hd
    have h36 := ev_get hFm.size (hd 2 36 rfl rfl)
    have h37 := ev_get hFm.size (hd 3 37 rfl rfl)
    refine .inl ⟨wanted_none rfl _, fun K hK => ?_⟩
    have HK := Lib.hid hK
    clear hd hFm hK
    go_simp
    exact HK.out _ _ rfl (Below.refl _ _)
  simp only [List.nil_append, List.cons_append]
  apply step_fix
  · intro a W Zs hS hFm hz hd
    have h38 := ev_get hFm.size (hd 4 38 rfl rfl)
    refine .inl ⟨wanted_none rfl _, fun K hK => ?_⟩
    have HK := Lib.hid hK
    clear hd hFm hK
    go_simp
    exact HK.out _ _ rfl (Below.refl _ _)
  simp only [List.nil_append, List.cons_append]
  apply step_fix
  · intro a W Zs hS hFm hz hd
    have h12 := ev_get hFm.size (hFm.old 12 (.pointer (some ⟨b12, 0, none⟩)) (by simp))
    have hq := (q12.drew1.later hS).at
    unfold frBox at hq
    refine .inl ⟨wanted_at rfl rfl (hd 5 39 rfl rfl), fun K hK => ?_⟩
    have HK := Lib.hid hK
    clear hd hFm hK
    go_simp
    exact HK.out _ _ rfl (Below.refl _ _)
  simp only [List.nil_append, List.cons_append]
  apply step_fix
  · intro a W Zs hS hFm hz hd
    have h13 := ev_get hFm.size (hFm.old 13 (.pointer (some ⟨b13, 0, none⟩)) (by simp))
    have hq := (q13.drew1.later hS).at
    unfold frBox at hq
    refine .inl ⟨wanted_at rfl rfl (hd 5 39 rfl rfl), fun K hK => ?_⟩
    have HK := Lib.hid hK
    clear hd hFm hK
    go_simp
    exact HK.out _ _ rfl (Below.refl _ _)
  simp only [List.nil_append, List.cons_append]
  apply step_fix
  · intro a W Zs hS hFm hz hd
    have h40 := ev_get hFm.size (hd 6 40 rfl rfl)
    have h41 := ev_get hFm.size (hd 7 41 rfl rfl)
    refine .inl ⟨wanted_at rfl rfl (hd 5 39 rfl rfl), fun K hK => ?_⟩
    have HK := Lib.hid hK
    clear hd hFm hK
    go_simp
    refine (HS1.out _ (r12.drew1.later hS) (r13.drew1.later hS)).mono ?_
    rintro e W' ⟨rfl, hb⟩
    exact HK.out _ _ rfl hb
  simp only [List.nil_append, List.cons_append]
  apply step_fix
  · intro a W Zs hS hFm hz hd
    have h12 := ev_get hFm.size (hFm.old 12 (.pointer (some ⟨b12, 0, none⟩)) (by simp))
    have hq := (q12.drew1.later hS).at
    unfold frBox at hq
    refine .inl ⟨wanted_at rfl rfl (hd 5 39 rfl rfl), fun K hK => ?_⟩
    have HK := Lib.hid hK
    clear hd hFm hK
    go_simp
    exact HK.out _ _ rfl (Below.refl _ _)
  simp only [List.nil_append, List.cons_append]
  apply step_fix
  · intro a W Zs hS hFm hz hd
    have h13 := ev_get hFm.size (hFm.old 13 (.pointer (some ⟨b13, 0, none⟩)) (by simp))
    have hq := (q13.drew1.later hS).at
    unfold frBox at hq
    refine .inl ⟨wanted_at rfl rfl (hd 5 39 rfl rfl), fun K hK => ?_⟩
    have HK := Lib.hid hK
    clear hd hFm hK
    go_simp
    exact HK.out _ _ rfl (Below.refl _ _)
  simp only [List.nil_append, List.cons_append]
  apply step_fix
  · intro a W Zs hS hFm hz hd
    have h43 := ev_get hFm.size (hd 9 43 rfl rfl)
    have h44 := ev_get hFm.size (hd 10 44 rfl rfl)
    refine .inl ⟨wanted_at rfl rfl (hd 5 39 rfl rfl), fun K hK => ?_⟩
    have HK := Lib.hid hK
    clear hd hFm hK
    go_simp
    refine (HS2.out _ (r12.drew1.later hS) (r13.drew1.later hS)).mono ?_
    rintro e W' ⟨rfl, hb⟩
    exact HK.out _ _ rfl hb
  simp only [List.nil_append, List.cons_append]
  apply step_fix
  · intro a W Zs hS hFm hz hd
    have h42 := ev_get hFm.size (hd 8 42 rfl rfl)
    have h45 := ev_get hFm.size (hd 11 45 rfl rfl)
    refine .inl ⟨wanted_at rfl rfl (hd 5 39 rfl rfl), fun K hK => ?_⟩
    have HK := Lib.hid hK
    clear hd hFm hK
    go_simp
    exact HK.out _ _ rfl (Below.refl _ _)
  simp only [List.nil_append, List.cons_append]
  apply step_fix
  · intro a W Zs hS hFm hz hd
    have h39 := ev_get hFm.size (hd 5 39 rfl rfl)
    have h46 := ev_get hFm.size (hd 12 46 rfl rfl)
    refine .inl ⟨wanted_none rfl _, fun K hK => ?_⟩
    have HK := Lib.hid hK
    clear hd hFm hK
    go_simp
    exact HK.out _ _ rfl (Below.refl _ _)
  simp only [List.nil_append, List.cons_append]
  apply step_fix
  · intro a W Zs hS hFm hz hd
    have h47 := ev_get hFm.size (hd 13 47 rfl rfl)
    refine .inl ⟨wanted_none rfl _, fun K hK => ?_⟩
    have HK := Lib.hid hK
    clear hd hFm hK
    go_simp
    exact HK.out _ _ rfl (Below.refl _ _)
  simp only [List.nil_append, List.cons_append]
  apply step_fix
  · intro a W Zs hS hFm hz hd
    have h12 := ev_get hFm.size (hFm.old 12 (.pointer (some ⟨b12, 0, none⟩)) (by simp))
    have hq := (q12.drew1.later hS).at
    unfold frBox at hq
    refine .inl ⟨wanted_at rfl rfl (hd 14 48 rfl rfl), fun K hK => ?_⟩
    have HK := Lib.hid hK
    clear hd hFm hK
    go_simp
    exact HK.out _ _ rfl (Below.refl _ _)
  simp only [List.nil_append, List.cons_append]
  apply step_fix
  · intro a W Zs hS hFm hz hd
    have h12 := ev_get hFm.size (hFm.old 12 (.pointer (some ⟨b12, 0, none⟩)) (by simp))
    have hq := (q12.drew1.later hS).at
    unfold frBox at hq
    refine .inl ⟨wanted_at rfl rfl (hd 14 48 rfl rfl), fun K hK => ?_⟩
    have HK := Lib.hid hK
    clear hd hFm hK
    go_simp
    exact HK.out _ _ rfl (Below.refl _ _)
  simp only [List.nil_append, List.cons_append]
  apply step_fix
  · intro a W Zs hS hFm hz hd
    have h49 := ev_get hFm.size (hd 15 49 rfl rfl)
    have h50 := ev_get hFm.size (hd 16 50 rfl rfl)
    refine .inl ⟨wanted_at rfl rfl (hd 14 48 rfl rfl), fun K hK => ?_⟩
    have HK := Lib.hid hK
    clear hd hFm hK
    go_simp
    refine (HS3.out _ (r12.drew1.later hS)).mono ?_
    rintro e W' ⟨rfl, hb⟩
    exact HK.out _ _ rfl hb
  simp only [List.nil_append, List.cons_append]
  apply step_fix
  · intro a W Zs hS hFm hz hd
    have h48 := ev_get hFm.size (hd 14 48 rfl rfl)
    have h51 := ev_get hFm.size (hd 17 51 rfl rfl)
    refine .inl ⟨wanted_none rfl _, fun K hK => ?_⟩
    have HK := Lib.hid hK
    clear hd hFm hK
    go_simp
    exact HK.out _ _ rfl (Below.refl _ _)
  simp only [List.nil_append, List.cons_append]
  apply step_fix
  · intro a W Zs hS hFm hz hd
    have h52 := ev_get hFm.size (hd 18 52 rfl rfl)
    refine .inl ⟨wanted_none rfl _, fun K hK => ?_⟩
    have HK := Lib.hid hK
    clear hd hFm hK
    go_simp
    exact HK.out _ _ rfl (Below.refl _ _)
  simp only [List.nil_append, List.cons_append]
  intro a w4 Zs hS hFm hz hd
  have e10 := hd 19 10 rfl
  have e12 := hFm.old 12 (.pointer (some ⟨b12, 0, none⟩)) (by simp)
  have e13 := hFm.old 13 (.pointer (some ⟨b13, 0, none⟩)) (by simp)
  have e14 := hFm.old 14 (.bool bb) (by simp)
  have hsz := hFm.size
  have hdf := hFm.defers
  clear hd hFm
  obtain ⟨t, df⟩ := a
  simp only at hsz hdf
  subst hdf
  obtain ⟨x, hx⟩ : ∃ x : Nat → Value, ∀ i, t.getD i undef = x i := ⟨fun i => t.getD i undef, fun _ => rfl⟩
  have h10 := (hx 10).symm.trans e10
  have h12 := (hx 12).symm.trans e12
  have h13 := (hx 13).symm.trans e13
  have h14 := (hx 14).symm.trans e14
  have ht' : t = #[x 0, x 1, x 2, x 3, x 4, x 5, x 6, x 7, x 8, x 9, x 10, x 11, x 12, x 13, x 14, x 15, x 16, x 17, x 18, x 19, x 20, x 21, x 22, x 23, x 24, x 25, x 26, x 27, x 28, x 29, x 30, x 31, x 32, x 33, x 34, x 35, x 36, x 37, x 38, x 39, x 40, x 41, x 42, x 43, x 44, x 45, x 46, x 47, x 48, x 49, x 50, x 51, x 52] := frame_lit t 53 hsz x hx
  clear hx hsz hz e10 e12 e13 e14
  subst ht'
  dsimp only
  rw [h10, h12, h13, h14]
  clear h10 h12 h13 h14
  have hb2 := from_drew hS
  replace hB := hB.trans (hb2.mono hB.size)
  go_wp2
  go_ret
  exact ⟨rfl, hB⟩

end Go.Proofs.Ytafcjdcmbklfkaa

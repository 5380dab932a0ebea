/-
  FrameCut's walk.
-/
import Derived.Test.YtafcjdcmbklfkaaLaw53
import Derived.Test.YtafcjdcmbklfkaaSlots3
namespace Go.Proofs.Ytafcjdcmbklfkaa
open Go.RowKit Plait
set_option linter.unusedVariables false
set_option linter.unusedSimpArgs false

set_option maxRecDepth 100000 in
set_option maxHeartbeats 6400000 in
theorem frameCut_walk (c : Cf) (a : Option Addr) (cap : Nat) (f : Fr) (fa : Option Addr) (fc : Nat) (na : Option Addr) (ns : List Int) (nc : Nat) (cut more : Int) (w : World) (hrow : Row w a c.P) (iN : inI c.N) (iP : inI c.Pi) (iE : inI c.E) (iG : inI c.G) (iF : inI c.F)
    (hfE : RowT w fa f.E) (iK : inI f.K) (iR : inI f.R) (iS : inI f.S) (iQ : inI f.P.K) (iV : inI f.P.V) (hns : Row w na ns) (cu1 : -9223372036854775808 ≤ cut) (cu2 : cut ≤ 9223372036854775807) (mo1 : -9223372036854775808 ≤ more) (mo2 : more ≤ 9223372036854775807) :
    Calls Try.prog 10 #[.agg #[.int .i64 c.N, .int .i64 c.Pi, .int .i64 c.E, .int .i64 c.G, .int .i64 c.F, .slice a c.P.length cap], .agg #[.int .i64 f.K, .int .i64 f.R, .int .i64 f.S, .int .i64 f.P.K, .int .i64 f.P.V, .slice fa f.E.length fc], .slice na ns.length nc, .int .i64 cut, .int .i64 more] w fun e w' => e = .returned (.bool true) ∧ Below w.heap.size w w' := by
  have hB : Below w.heap.size w ((w.alloc (.cells #[.int .i64 c.N, .int .i64 c.Pi, .int .i64 c.E, .int .i64 c.G, .int .i64 c.F, .slice a c.P.length cap] 24)).alloc (.cells #[.int .i64 f.K, .int .i64 f.R, .int .i64 f.S, .int .i64 f.P.K, .int .i64 f.P.V, .slice fa f.E.length fc] 29)) := (alloc_below w _).alloc (by simp) _
  have hC : Blk ((w.alloc (.cells #[.int .i64 c.N, .int .i64 c.Pi, .int .i64 c.E, .int .i64 c.G, .int .i64 c.F, .slice a c.P.length cap] 24)).alloc (.cells #[.int .i64 f.K, .int .i64 f.R, .int .i64 f.S, .int .i64 f.P.K, .int .i64 f.P.V, .slice fa f.E.length fc] 29)) w.heap.size 24 (confBox c a cap) := (Blk.new w _ _).alloc _
  have hF : Blk ((w.alloc (.cells #[.int .i64 c.N, .int .i64 c.Pi, .int .i64 c.E, .int .i64 c.G, .int .i64 c.F, .slice a c.P.length cap] 24)).alloc (.cells #[.int .i64 f.K, .int .i64 f.R, .int .i64 f.S, .int .i64 f.P.K, .int .i64 f.P.V, .slice fa f.E.length fc] 29)) (w.heap.size + 1) 29 (frBox f fa fc) := Blk.newAt _ _ (by simp)
  go_enter Try.func10, Try.ntmps10
  go_wp2_with fail
  refine (known5_any _).mono ?_
  rintro e wn ⟨rfl, hb⟩
  replace hB := hB.trans (hb.mono hB.size)
  replace hC := hC.later hb
  replace hF := hF.later hb
  clear hb
  have qC := hC.at
  unfold confBox at qC
  go_wp2_with fail
  refine (make_any c a cap _ (hrow.later hB)).mono ?_
  rintro e wm ⟨da, dc, rfl, hrd, hfd, hb⟩
  replace hB := hB.trans (hb.mono hB.size)
  replace hF := hF.later hb
  clear hb qC hC hfd
  have hok := makeC_ok c
  generalize makeC c = d at *
  have hD : Blk (wm.alloc (.cells #[.int .i64 d.N, .int .i64 d.Pi, .int .i64 d.E, .int .i64 d.G, .int .i64 d.F, .slice da d.P.length dc] 24)) wm.heap.size 24 (confBox d da dc) := Blk.new wm _ _
  replace hB := hB.alloc hB.size (.cells #[.int .i64 d.N, .int .i64 d.Pi, .int .i64 d.E, .int .i64 d.G, .int .i64 d.F, .slice da d.P.length dc] 24)
  replace hF := hF.alloc (.cells #[.int .i64 d.N, .int .i64 d.Pi, .int .i64 d.E, .int .i64 d.G, .int .i64 d.F, .slice da d.P.length dc] 24)
  replace hrd := hrd.alloc (.cells #[.int .i64 d.N, .int .i64 d.Pi, .int .i64 d.E, .int .i64 d.G, .int .i64 d.F, .slice da d.P.length dc] 24)
  go_upto_region 4 with fail
  generalize wm.alloc (.cells #[.int .i64 d.N, .int .i64 d.Pi, .int .i64 d.E, .int .i64 d.G, .int .i64 d.F, .slice da d.P.length dc] 24) = wn at *
  generalize wm.heap.size = db at *
  have hokg := makeF_ok d f ns hok
  replace hns := hns.later hB
  refine region_slots [some 21, some 22, some 23, some 24, some 25, some 26, some 12] [none, none, none, none, none, none, none] 66 [(2, .slice na ns.length nc), (3, .int .i64 cut), (4, .int .i64 more), (6, .pointer (some ⟨w.heap.size + 1, 0, none⟩)), (10, .bool false), (11, .pointer (some ⟨db, 0, none⟩))] (by kernel_rfl) (by kernel_rfl) ⟨by rfl, by rfl, by intro k v hk; simp only [List.mem_cons, List.not_mem_nil, or_false, Prod.mk.injEq] at hk; rcases hk with ⟨rfl, rfl⟩ | ⟨rfl, rfl⟩ | ⟨rfl, rfl⟩ | ⟨rfl, rfl⟩ | ⟨rfl, rfl⟩ | ⟨rfl, rfl⟩ <;> rfl⟩ ?_
  apply step_fix
  · intro a W Zs hS hFm hz hd
    have h11 := ev_get hFm.size (hFm.old 11 (.pointer (some ⟨db, 0, none⟩)) (by simp))
    have hq := (hD.drew1.later hS).at
    unfold confBox at hq
    refine .inl ⟨wanted_none rfl _, fun K hK => ?_⟩
    have HK := Lib.hid hK
    clear hd hFm hK
    go_simp
    exact HK.out _ _ rfl (Below.refl _ _)
  simp only [List.nil_append, List.cons_append]
  apply step_fix
  · intro a W Zs hS hFm hz hd
    have h11 := ev_get hFm.size (hFm.old 11 (.pointer (some ⟨db, 0, none⟩)) (by simp))
    have hq := (hD.drew1.later hS).at
    unfold confBox at hq
    refine .inl ⟨wanted_none rfl _, fun K hK => ?_⟩
    have HK := Lib.hid hK
    clear hd hFm hK
    go_simp
    exact HK.out _ _ rfl (Below.refl _ _)
  simp only [List.nil_append, List.cons_append]
  apply step_fix
  · intro a W Zs hS hFm hz hd
    have h6 := ev_get hFm.size (hFm.old 6 (.pointer (some ⟨w.heap.size + 1, 0, none⟩)) (by simp))
    have hq := (hF.drew1.later hS).at
    unfold frBox at hq
    refine .inl ⟨wanted_none rfl _, fun K hK => ?_⟩
    have HK := Lib.hid hK
    clear hd hFm hK
    go_simp
    exact HK.out _ _ rfl (Below.refl _ _)
  simp only [List.nil_append, List.cons_append]
  apply step_fix
  · intro a W Zs hS hFm hz hd
    have h2 := ev_get hFm.size (hFm.old 2 (.slice na ns.length nc) (by simp))
    refine .inl ⟨wanted_none rfl _, fun K hK => ?_⟩
    have HK := Lib.hid hK
    clear hd hFm hK
    go_simp
    exact HK.out _ _ rfl (Below.refl _ _)
  simp only [List.nil_append, List.cons_append]
  refine step_of (frF _ ((makeF d f ns))) (frF_good _ _) ?_ ?_
  · intro a W Zs hS hFm hz hd
    have h22 := ev_get hFm.size (hd 1 22 rfl rfl)
    have h23 := ev_get hFm.size (hd 2 23 rfl rfl)
    have h24 := ev_get hFm.size (hd 3 24 rfl rfl)
    refine .inl ⟨wanted_none rfl _, fun K hK => ?_⟩
    have HK := Lib.hid hK
    clear hd hFm hK
    go_simp
    refine (make5_any d da dc f fa fc na ns nc _ hok (hns.drew1.later hS) iK iR iS iV).mono ?_
    rintro e W' ⟨ra, rc, rfl, hr, hfr, hb⟩
    exact HK.out _ _ ⟨ra, rc, rfl, hr, hr.foot hfr⟩ hb
  simp only [List.nil_append, List.cons_append]
  apply step_fix
  · intro a W Zs hS hFm hz hd
    have h21 := ev_get hFm.size (hd 0 21 rfl rfl)
    obtain ⟨a25, c25, e25, r25, f25⟩ := hd 4 25 rfl rfl
    have h25 := ev_get hFm.size e25
    refine .inl ⟨wanted_none rfl _, fun K hK => ?_⟩
    have HK := Lib.hid hK
    clear hd hFm hK
    go_simp
    refine (fText_ok d da dc (makeF d f ns) a25 c25 _ hok hokg r25).mono ?_
    rintro e W' ⟨rfl, hb⟩
    exact HK.out _ _ rfl hb
  simp only [List.nil_append, List.cons_append]
  apply step_fix
  · intro a W Zs hS hFm hz hd
    have h26 := ev_get hFm.size (hd 5 26 rfl rfl)
    refine .inl ⟨wanted_none rfl _, fun K hK => ?_⟩
    have HK := Lib.hid hK
    clear hd hFm hK
    go_simp
    exact HK.out _ _ rfl (Below.refl _ _)
  simp only [List.nil_append, List.cons_append]
  intro a w2 Zs hS hFm hz hd
  have e12 := hd 6 12 rfl
  have e2 := hFm.old 2 (.slice na ns.length nc) (by simp)
  have e3 := hFm.old 3 (.int .i64 cut) (by simp)
  have e4 := hFm.old 4 (.int .i64 more) (by simp)
  have e6 := hFm.old 6 (.pointer (some ⟨w.heap.size + 1, 0, none⟩)) (by simp)
  have e10 := hFm.old 10 (.bool false) (by simp)
  have e11 := hFm.old 11 (.pointer (some ⟨db, 0, none⟩)) (by simp)
  have hsz := hFm.size
  have hdf := hFm.defers
  clear hd hFm
  obtain ⟨t, df⟩ := a
  simp only at hsz hdf
  subst hdf
  obtain ⟨x, hx⟩ : ∃ x : Nat → Value, ∀ i, t.getD i undef = x i := ⟨fun i => t.getD i undef, fun _ => rfl⟩
  have h12 := (hx 12).symm.trans e12
  have h2 := (hx 2).symm.trans e2
  have h3 := (hx 3).symm.trans e3
  have h4 := (hx 4).symm.trans e4
  have h6 := (hx 6).symm.trans e6
  have h10 := (hx 10).symm.trans e10
  have h11 := (hx 11).symm.trans e11
  have ht' : t = #[x 0, x 1, x 2, x 3, x 4, x 5, x 6, x 7, x 8, x 9, x 10, x 11, x 12, x 13, x 14, x 15, x 16, x 17, x 18, x 19, x 20, x 21, x 22, x 23, x 24, x 25, x 26, x 27, x 28, x 29, x 30, x 31, x 32, x 33, x 34, x 35, x 36, x 37, x 38, x 39, x 40, x 41, x 42, x 43, x 44, x 45, x 46, x 47, x 48, x 49, x 50, x 51, x 52, x 53, x 54, x 55, x 56, x 57, x 58, x 59, x 60, x 61, x 62, x 63, x 64, x 65] := frame_lit t 66 hsz x hx
  clear hx hsz hz e12 e2 e3 e4 e6 e10 e11
  subst ht'
  dsimp only
  rw [h12, h2, h3, h4, h6, h10, h11]
  clear h12 h2 h3 h4 h6 h10 h11
  have hb2 := from_drew hS
  replace hB := hB.trans (hb2.mono hB.size)
  replace hD := hD.later hb2
  clear hS hb2 hF hns hrd
  have hl := textF_length (makeF d f ns)
  have h15 := (ok_small hok hokg).2.2.2.2.2
  have T1 := Lib.hid (fun k h => front_refused (makeF d f ns) k h d)
  have T2 := Lib.hid (fun s => behind_refused (makeF d f ns) s d)
  clear hokg
  generalize textF (makeF d f ns) = l at *
  have l1 : 51 ≤ l.length := by omega
  have l2 : l.length ≤ 201 := by omega
  clear hl h15
  have HW1 := Lib.hid (fun W => within5_any cut (l.length : Int) W (by omega) (by omega))
  have a0 : 0 ≤ cut % (l.length : Int) := Int.emod_nonneg _ (by omega)
  have a1 : cut % (l.length : Int) < (l.length : Int) := Int.emod_lt_of_pos _ (by omega)
  obtain ⟨k, hk⟩ : ∃ k : Nat, cut % (l.length : Int) = (k : Int) := ⟨(cut % (l.length : Int)).toNat, by omega⟩
  rw [hk] at a0 a1 HW1
  clear hk
  have E1 := T1.out k (by omega)
  have z1 : k ≤ l.length := by omega
  have HR1 := Lib.hid (fun W => fRead_at d da dc ((l.drop 0).take (k - 0)) W hok (by simp; omega) _ _ E1)
  clear E1
  go_upto_region 5 with fail
  refine region_slots [some 28, some 29, some 30, some 31, some 32, some 33, some 34, some 35, some 27, some 36, some 37, some 13, none, some 14] [none, none, none, none, none, none, none, none, none, none, none, none, some 11, none] 66 [(3, .int .i64 cut), (4, .int .i64 more), (10, .bool false), (11, .pointer (some ⟨db, 0, none⟩)), (12, .string ⟨l.toArray⟩)] (by kernel_rfl) (by kernel_rfl) ⟨by rfl, by rfl, by intro k v hk; simp only [List.mem_cons, List.not_mem_nil, or_false, Prod.mk.injEq] at hk; rcases hk with ⟨rfl, rfl⟩ | ⟨rfl, rfl⟩ | ⟨rfl, rfl⟩ | ⟨rfl, rfl⟩ | ⟨rfl, rfl⟩ <;> rfl⟩ ?_
  apply step_fix
  · intro a W Zs hS hFm hz hd
    have h11 := ev_get hFm.size (hFm.old 11 (.pointer (some ⟨db, 0, none⟩)) (by simp))
    have hq := (hD.drew1.later hS).at
    unfold confBox at hq
    refine .inl ⟨wanted_none rfl _, fun K hK => ?_⟩
    have HK := Lib.hid hK
    clear hd hFm hK
    go_simp
    exact HK.out _ _ rfl (Below.refl _ _)
  simp only [List.nil_append, List.cons_append]
  apply step_fix
  · intro a W Zs hS hFm hz hd
    have h12 := ev_get hFm.size (hFm.old 12 (.string ⟨l.toArray⟩) (by simp))
    refine .inl ⟨wanted_none rfl _, fun K hK => ?_⟩
    have HK := Lib.hid hK
    clear hd hFm hK
    go_simp
    exact HK.out _ _ rfl (Below.refl _ _)
  simp only [List.nil_append, List.cons_append]
  apply step_fix
  · intro a W Zs hS hFm hz hd
    have h3 := ev_get hFm.size (hFm.old 3 (.int .i64 cut) (by simp))
    refine .inl ⟨wanted_none rfl _, fun K hK => ?_⟩
    have HK := Lib.hid hK
    clear hd hFm hK
    go_simp
    exact HK.out _ _ rfl (Below.refl _ _)
  simp only [List.nil_append, List.cons_append]
  apply step_fix
  · intro a W Zs hS hFm hz hd
    have h12 := ev_get hFm.size (hFm.old 12 (.string ⟨l.toArray⟩) (by simp))
    refine .inl ⟨wanted_none rfl _, fun K hK => ?_⟩
    have HK := Lib.hid hK
    clear hd hFm hK
    go_simp
    exact HK.out _ _ rfl (Below.refl _ _)
  simp only [List.nil_append, List.cons_append]
  apply step_fix
  · intro a W Zs hS hFm hz hd
    have h31 := ev_get hFm.size (hd 3 31 rfl rfl)
    refine .inl ⟨wanted_none rfl _, fun K hK => ?_⟩
    have HK := Lib.hid hK
    clear hd hFm hK
    go_simp
    exact HK.out _ _ rfl (Below.refl _ _)
  simp only [List.nil_append, List.cons_append]
  apply step_fix
  · intro a W Zs hS hFm hz hd
    have h30 := ev_get hFm.size (hd 2 30 rfl rfl)
    have h32 := ev_get hFm.size (hd 4 32 rfl rfl)
    refine .inl ⟨wanted_none rfl _, fun K hK => ?_⟩
    have HK := Lib.hid hK
    clear hd hFm hK
    go_simp
    refine (HW1.out _).mono ?_
    rintro e W' ⟨rfl, rfl⟩
    exact HK.out _ _ rfl (Below.refl _ _)
  simp only [List.nil_append, List.cons_append]
  apply step_fix
  · intro a W Zs hS hFm hz hd
    have h29 := ev_get hFm.size (hd 1 29 rfl rfl)
    have h33 := ev_get hFm.size (hd 5 33 rfl rfl)
    refine .inl ⟨wanted_none rfl _, fun K hK => ?_⟩
    have HK := Lib.hid hK
    clear hd hFm hK
    go_simp
    exact HK.out _ _ rfl (Below.refl _ _)
  simp only [List.nil_append, List.cons_append]
  refine step_of (rdF _ (zeroF) (4)) (rdF_good _ _ _) ?_ ?_
  · intro a W Zs hS hFm hz hd
    have h28 := ev_get hFm.size (hd 0 28 rfl rfl)
    have h34 := ev_get hFm.size (hd 6 34 rfl rfl)
    refine .inl ⟨wanted_none rfl _, fun K hK => ?_⟩
    have HK := Lib.hid hK
    clear hd hFm hK
    go_simp
    refine (HR1.out _).mono ?_
    rintro e W' ⟨ra, rc, rfl, hr, hfr, hb⟩
    exact HK.out _ _ ⟨ra, rc, rfl, hr, hr.foot hfr⟩ hb
  simp only [List.nil_append, List.cons_append]
  refine step_of (rdF _ (zeroF) (4)) (rdF_good _ _ _) ?_ ?_
  · intro a W Zs hS hFm hz hd
    obtain ⟨a35, c35, e35, r35, f35⟩ := hd 7 35 rfl rfl
    have h35 := ev_get hFm.size e35
    refine .inl ⟨wanted_none rfl _, fun K hK => ?_⟩
    have HK := Lib.hid hK
    clear hd hFm hK
    go_simp
    exact HK.out _ _ ⟨a35, c35, rfl, r35, ft_mono f35 (foot_dep 7 rfl rfl rfl)⟩ (Below.refl _ _)
  simp only [List.nil_append, List.cons_append]
  refine step_of (frF _ (zeroF)) (frF_good _ _) ?_ ?_
  · intro a W Zs hS hFm hz hd
    obtain ⟨a27, c27, e27, r27, f27⟩ := hd 8 27 rfl rfl
    have h27 := ev_get hFm.size e27
    refine .inl ⟨wanted_none rfl _, fun K hK => ?_⟩
    have HK := Lib.hid hK
    clear hd hFm hK
    go_simp
    exact HK.out _ _ ⟨a27, c27, rfl, r27, ft_mono f27 (foot_dep 8 rfl rfl rfl)⟩ (Below.refl _ _)
  simp only [List.nil_append, List.cons_append]
  apply step_fix
  · intro a W Zs hS hFm hz hd
    obtain ⟨a27, c27, e27, r27, f27⟩ := hd 8 27 rfl rfl
    have h27 := ev_get hFm.size e27
    refine .inl ⟨wanted_none rfl _, fun K hK => ?_⟩
    have HK := Lib.hid hK
    clear hd hFm hK
    go_simp
    exact HK.out _ _ rfl (Below.refl _ _)
  simp only [List.nil_append, List.cons_append]
  refine step_of (boxF _ 29 6) (boxF_good _ _ _) ?_ ?_
  · intro a W Zs hS hFm hz hd
    refine .inl ⟨wanted_none rfl _, fun K hK => ?_⟩
    have HK := Lib.hid hK
    clear hd hFm hK
    go_simp
    exact HK.out _ _ ⟨_, _, rfl, rfl, Blk.new _ _ _, .inl ⟨Nat.le_refl _, by simp⟩⟩ (alloc_below _ _)
  simp only [List.nil_append, List.cons_append]
  refine step_of (frBoxF _ (zeroF)) (frBoxF_good _ _) ?_ ?_
  · intro a W Zs hS hFm hz hd hap
    obtain ⟨b13, cs13, e13, n13, q13, z13⟩ := hd 11 13 rfl rfl
    have h13 := ev_get hFm.size e13
    obtain ⟨a36, c36, e36, r36, f36⟩ := hd 9 36 rfl rfl
    have h36 := ev_get hFm.size e36
    have hB0 := (hz 11 _ rfl z13).1
    obtain ⟨u0, u1, u2, u3, u4, u5, rfl⟩ := arr6 n13
    have hq := q13.at
    have hfz := q13.frozen
    refine ⟨wanted_none rfl _, b13, z13, fun K hK => ?_⟩
    have HK := Lib.hid hK
    clear hd hFm hK
    go_simp
    exact HK.out undef _ (Only.fill6 _ _ _ _ _ _ _ _) (fun d hd' => by injection hd' with hd'; subst hd'; exact ⟨⟨b13, a36, c36, e13, q13.fill6 _ _ _ _ _ _, r36.agree f36 (store_apart (Only.fill6 W b13 _ _ _ _ _ _) hB0 z13 hap 9 rfl (by decide)), .inr (.inl rfl), ft_mono f36 (foot_depS 9 rfl rfl rfl)⟩, ⟨b13, _, e13, rfl, q13.fill6 _ _ _ _ _ _, z13⟩⟩)
  simp only [List.nil_append, List.cons_append]
  apply step_fix
  · intro a W Zs hS hFm hz hd
    have h37 := ev_get hFm.size (hd 10 37 rfl rfl)
    refine .inl ⟨wanted_none rfl _, fun K hK => ?_⟩
    have HK := Lib.hid hK
    clear hd hFm hK
    go_simp
    exact HK.out _ _ rfl (Below.refl _ _)
  simp only [List.nil_append, List.cons_append]
  intro a w3 Zs hS hFm hz hd
  obtain ⟨b13, a13, c13, e13, q13, r13, f13, g13⟩ := hd 12 13 rfl
  have e14 := hd 13 14 rfl
  have e3 := hFm.old 3 (.int .i64 cut) (by simp)
  have e4 := hFm.old 4 (.int .i64 more) (by simp)
  have e10 := hFm.old 10 (.bool false) (by simp)
  have e11 := hFm.old 11 (.pointer (some ⟨db, 0, none⟩)) (by simp)
  have e12 := hFm.old 12 (.string ⟨l.toArray⟩) (by simp)
  have hsz := hFm.size
  have hdf := hFm.defers
  clear hd hFm
  obtain ⟨t, df⟩ := a
  simp only at hsz hdf
  subst hdf
  obtain ⟨x, hx⟩ : ∃ x : Nat → Value, ∀ i, t.getD i undef = x i := ⟨fun i => t.getD i undef, fun _ => rfl⟩
  have h13 := (hx 13).symm.trans e13
  have h14 := (hx 14).symm.trans e14
  have h3 := (hx 3).symm.trans e3
  have h4 := (hx 4).symm.trans e4
  have h10 := (hx 10).symm.trans e10
  have h11 := (hx 11).symm.trans e11
  have h12 := (hx 12).symm.trans e12
  have ht' : t = #[x 0, x 1, x 2, x 3, x 4, x 5, x 6, x 7, x 8, x 9, x 10, x 11, x 12, x 13, x 14, x 15, x 16, x 17, x 18, x 19, x 20, x 21, x 22, x 23, x 24, x 25, x 26, x 27, x 28, x 29, x 30, x 31, x 32, x 33, x 34, x 35, x 36, x 37, x 38, x 39, x 40, x 41, x 42, x 43, x 44, x 45, x 46, x 47, x 48, x 49, x 50, x 51, x 52, x 53, x 54, x 55, x 56, x 57, x 58, x 59, x 60, x 61, x 62, x 63, x 64, x 65] := frame_lit t 66 hsz x hx
  clear hx hsz hz e13 e14 e3 e4 e10 e11 e12
  subst ht'
  dsimp only
  rw [h13, h14, h3, h4, h10, h11, h12]
  clear h13 h14 h3 h4 h10 h11 h12
  have hb2 := from_drew hS
  replace hB := hB.trans (hb2.mono hB.size)
  replace hD := hD.later hb2
  clear hS hb2 HW1 HR1 T1 z1 a0 a1 r13 f13 g13
  have HW2 := Lib.hid (fun W => within5_any more 4 W (by omega) (by omega))
  rcases (by omega : more % 4 = 0 ∨ more % 4 = 1 ∨ more % 4 = 2 ∨ more % 4 = 3) with hj | hj | hj | hj
  all_goals rw [hj] at HW2
  all_goals clear hj
  · have HR2 := Lib.hid (fun W => fRead_at d da dc (l ++ [48]) W hok (by simp; omega) _ _ (T2.out 48))
    have ad := add_run l [48] (by omega) (by simp)
    go_upto_region 6 with fail
    refine region_slots [some 39, some 40, some 41, some 42, some 43, some 44, some 45, some 46, some 47, some 38, some 48, some 49, some 15, none, some 16] [none, none, none, none, none, none, none, none, none, none, none, none, none, some 12, none] 66 [(4, .int .i64 more), (10, .bool false), (11, .pointer (some ⟨db, 0, none⟩)), (12, .string ⟨l.toArray⟩), (13, .pointer (some ⟨b13, 0, none⟩)), (14, .int .i64 4)] (by kernel_rfl) (by kernel_rfl) ⟨by rfl, by rfl, by intro k v hk; simp only [List.mem_cons, List.not_mem_nil, or_false, Prod.mk.injEq] at hk; rcases hk with ⟨rfl, rfl⟩ | ⟨rfl, rfl⟩ | ⟨rfl, rfl⟩ | ⟨rfl, rfl⟩ | ⟨rfl, rfl⟩ | ⟨rfl, rfl⟩ <;> rfl⟩ ?_
    apply step_fix
    · intro a W Zs hS hFm hz hd
      have h11 := ev_get hFm.size (hFm.old 11 (.pointer (some ⟨db, 0, none⟩)) (by simp))
      have hq := (hD.drew1.later hS).at
      unfold confBox at hq
      refine .inl ⟨wanted_none rfl _, fun K hK => ?_⟩
      have HK := Lib.hid hK
      clear hd hFm hK
      go_simp
      exact HK.out _ _ rfl (Below.refl _ _)
    simp only [List.nil_append, List.cons_append]
    apply step_fix
    · intro a W Zs hS hFm hz hd
      have h12 := ev_get hFm.size (hFm.old 12 (.string ⟨l.toArray⟩) (by simp))
      refine .inl ⟨wanted_none rfl _, fun K hK => ?_⟩
      have HK := Lib.hid hK
      clear hd hFm hK
      go_simp
      exact HK.out _ _ rfl (Below.refl _ _)
    simp only [List.nil_append, List.cons_append]
    apply step_blk
    · intro a W Zs hS hFm hz hd
      refine .inl ⟨wanted_none rfl _, fun K hK => ?_⟩
      have HK := Lib.hid hK
      clear hd hFm hK
      go_simp
      exact HK.out _ _ ⟨_, rfl, Blk.new _ _ _, .inr (.inl ⟨Nat.le_refl _, by simp⟩)⟩ (alloc_below _ _)
    simp only [List.nil_append, List.cons_append]
    apply step_fix
    · intro a W Zs hS hFm hz hd
      have h4 := ev_get hFm.size (hFm.old 4 (.int .i64 more) (by simp))
      refine .inl ⟨wanted_none rfl _, fun K hK => ?_⟩
      have HK := Lib.hid hK
      clear hd hFm hK
      go_simp
      exact HK.out _ _ rfl (Below.refl _ _)
    simp only [List.nil_append, List.cons_append]
    apply step_fix
    · intro a W Zs hS hFm hz hd
      have h42 := ev_get hFm.size (hd 3 42 rfl rfl)
      refine .inl ⟨wanted_none rfl _, fun K hK => ?_⟩
      have HK := Lib.hid hK
      clear hd hFm hK
      go_simp
      refine (HW2.out _).mono ?_
      rintro e W' ⟨rfl, rfl⟩
      exact HK.out _ _ rfl (Below.refl _ _)
    simp only [List.nil_append, List.cons_append]
    apply step_ptr
    · intro a W Zs hS hFm hz hd
      obtain ⟨b41, e41, q41, f41⟩ := hd 2 41 rfl rfl
      have h41 := ev_get hFm.size e41
      have h43 := ev_get hFm.size (hd 4 43 rfl rfl)
      refine .inl ⟨wanted_none rfl _, fun K hK => ?_⟩
      have HK := Lib.hid hK
      clear hd hFm hK
      go_simp
      exact HK.out _ _ ⟨b41, rfl, q41, f41.imp id (foot_dep 2 rfl rfl rfl _)⟩ (Below.refl _ _)
    simp only [List.nil_append, List.cons_append]
    apply step_fix
    · intro a W Zs hS hFm hz hd
      obtain ⟨b44, e44, q44, f44⟩ := hd 5 44 rfl rfl
      have h44 := ev_get hFm.size e44
      have hq := q44.at
      refine .inl ⟨wanted_none rfl _, fun K hK => ?_⟩
      have HK := Lib.hid hK
      clear hd hFm hK
      go_simp
      exact HK.out _ _ rfl (Below.refl _ _)
    simp only [List.nil_append, List.cons_append]
    apply step_fix
    · intro a W Zs hS hFm hz hd
      have h40 := ev_get hFm.size (hd 1 40 rfl rfl)
      have h45 := ev_get hFm.size (hd 6 45 rfl rfl)
      refine .inl ⟨wanted_none rfl _, fun K hK => ?_⟩
      have HK := Lib.hid hK
      clear hd hFm hK
      go_simp
      exact HK.out _ _ rfl (Below.refl _ _)
    simp only [List.nil_append, List.cons_append]
    refine step_of (rdF _ (zeroF) (4)) (rdF_good _ _ _) ?_ ?_
    · intro a W Zs hS hFm hz hd
      have h39 := ev_get hFm.size (hd 0 39 rfl rfl)
      have h46 := ev_get hFm.size (hd 7 46 rfl rfl)
      refine .inl ⟨wanted_none rfl _, fun K hK => ?_⟩
      have HK := Lib.hid hK
      clear hd hFm hK
      go_simp
      refine (HR2.out _).mono ?_
      rintro e W' ⟨ra, rc, rfl, hr, hfr, hb⟩
      exact HK.out _ _ ⟨ra, rc, rfl, hr, hr.foot hfr⟩ hb
    simp only [List.nil_append, List.cons_append]
    refine step_of (rdF _ (zeroF) (4)) (rdF_good _ _ _) ?_ ?_
    · intro a W Zs hS hFm hz hd
      obtain ⟨a47, c47, e47, r47, f47⟩ := hd 8 47 rfl rfl
      have h47 := ev_get hFm.size e47
      refine .inl ⟨wanted_none rfl _, fun K hK => ?_⟩
      have HK := Lib.hid hK
      clear hd hFm hK
      go_simp
      exact HK.out _ _ ⟨a47, c47, rfl, r47, ft_mono f47 (foot_dep 8 rfl rfl rfl)⟩ (Below.refl _ _)
    simp only [List.nil_append, List.cons_append]
    refine step_of (frF _ (zeroF)) (frF_good _ _) ?_ ?_
    · intro a W Zs hS hFm hz hd
      obtain ⟨a38, c38, e38, r38, f38⟩ := hd 9 38 rfl rfl
      have h38 := ev_get hFm.size e38
      refine .inl ⟨wanted_none rfl _, fun K hK => ?_⟩
      have HK := Lib.hid hK
      clear hd hFm hK
      go_simp
      exact HK.out _ _ ⟨a38, c38, rfl, r38, ft_mono f38 (foot_dep 9 rfl rfl rfl)⟩ (Below.refl _ _)
    simp only [List.nil_append, List.cons_append]
    apply step_fix
    · intro a W Zs hS hFm hz hd
      obtain ⟨a38, c38, e38, r38, f38⟩ := hd 9 38 rfl rfl
      have h38 := ev_get hFm.size e38
      refine .inl ⟨wanted_none rfl _, fun K hK => ?_⟩
      have HK := Lib.hid hK
      clear hd hFm hK
      go_simp
      exact HK.out _ _ rfl (Below.refl _ _)
    simp only [List.nil_append, List.cons_append]
    refine step_of (boxF _ 29 6) (boxF_good _ _ _) ?_ ?_
    · intro a W Zs hS hFm hz hd
      refine .inl ⟨wanted_none rfl _, fun K hK => ?_⟩
      have HK := Lib.hid hK
      clear hd hFm hK
      go_simp
      exact HK.out _ _ ⟨_, _, rfl, rfl, Blk.new _ _ _, .inl ⟨Nat.le_refl _, by simp⟩⟩ (alloc_below _ _)
    simp only [List.nil_append, List.cons_append]
    refine step_of (frBoxF _ (zeroF)) (frBoxF_good _ _) ?_ ?_
    · intro a W Zs hS hFm hz hd hap
      obtain ⟨b15, cs15, e15, n15, q15, z15⟩ := hd 12 15 rfl rfl
      have h15 := ev_get hFm.size e15
      obtain ⟨a48, c48, e48, r48, f48⟩ := hd 10 48 rfl rfl
      have h48 := ev_get hFm.size e48
      have hB0 := (hz 12 _ rfl z15).1
      obtain ⟨u0, u1, u2, u3, u4, u5, rfl⟩ := arr6 n15
      have hq := q15.at
      have hfz := q15.frozen
      refine ⟨wanted_none rfl _, b15, z15, fun K hK => ?_⟩
      have HK := Lib.hid hK
      clear hd hFm hK
      go_simp
      exact HK.out undef _ (Only.fill6 _ _ _ _ _ _ _ _) (fun d hd' => by injection hd' with hd'; subst hd'; exact ⟨⟨b15, a48, c48, e15, q15.fill6 _ _ _ _ _ _, r48.agree f48 (store_apart (Only.fill6 W b15 _ _ _ _ _ _) hB0 z15 hap 10 rfl (by decide)), .inr (.inl rfl), ft_mono f48 (foot_depS 10 rfl rfl rfl)⟩, ⟨b15, _, e15, rfl, q15.fill6 _ _ _ _ _ _, z15⟩⟩)
    simp only [List.nil_append, List.cons_append]
    apply step_fix
    · intro a W Zs hS hFm hz hd
      have h49 := ev_get hFm.size (hd 11 49 rfl rfl)
      refine .inl ⟨wanted_none rfl _, fun K hK => ?_⟩
      have HK := Lib.hid hK
      clear hd hFm hK
      go_simp
      exact HK.out _ _ rfl (Below.refl _ _)
    simp only [List.nil_append, List.cons_append]
    intro a w4 Zs hS hFm hz hd
    have e16 := hd 14 16 rfl
    have e4 := hFm.old 4 (.int .i64 more) (by simp)
    have e10 := hFm.old 10 (.bool false) (by simp)
    have e11 := hFm.old 11 (.pointer (some ⟨db, 0, none⟩)) (by simp)
    have e12 := hFm.old 12 (.string ⟨l.toArray⟩) (by simp)
    have e13 := hFm.old 13 (.pointer (some ⟨b13, 0, none⟩)) (by simp)
    have e14 := hFm.old 14 (.int .i64 4) (by simp)
    have hsz := hFm.size
    have hdf := hFm.defers
    clear hd hFm
    obtain ⟨t, df⟩ := a
    simp only at hsz hdf
    subst hdf
    obtain ⟨x, hx⟩ : ∃ x : Nat → Value, ∀ i, t.getD i undef = x i := ⟨fun i => t.getD i undef, fun _ => rfl⟩
    have h16 := (hx 16).symm.trans e16
    have h4 := (hx 4).symm.trans e4
    have h10 := (hx 10).symm.trans e10
    have h11 := (hx 11).symm.trans e11
    have h12 := (hx 12).symm.trans e12
    have h13 := (hx 13).symm.trans e13
    have h14 := (hx 14).symm.trans e14
    have ht' : t = #[x 0, x 1, x 2, x 3, x 4, x 5, x 6, x 7, x 8, x 9, x 10, x 11, x 12, x 13, x 14, x 15, x 16, x 17, x 18, x 19, x 20, x 21, x 22, x 23, x 24, x 25, x 26, x 27, x 28, x 29, x 30, x 31, x 32, x 33, x 34, x 35, x 36, x 37, x 38, x 39, x 40, x 41, x 42, x 43, x 44, x 45, x 46, x 47, x 48, x 49, x 50, x 51, x 52, x 53, x 54, x 55, x 56, x 57, x 58, x 59, x 60, x 61, x 62, x 63, x 64, x 65] := frame_lit t 66 hsz x hx
    clear hx hsz hz e16 e4 e10 e11 e12 e13 e14
    subst ht'
    dsimp only
    rw [h16, h4, h10, h11, h12, h13, h14]
    clear h16 h4 h10 h11 h12 h13 h14
    have hb2 := from_drew hS
    replace hB := hB.trans (hb2.mono hB.size)
    have qX := (q13.later hb2).at
    unfold frBox zeroF at qX
    clear hS hb2 q13 hD HR2 HW2 T2 ad
    have d1 : decide (0 < l.length) = true := by simp; omega
    go_wp2
    go_ret
    exact ⟨rfl, hB⟩
  · have HR2 := Lib.hid (fun W => fRead_at d da dc (l ++ [49]) W hok (by simp; omega) _ _ (T2.out 49))
    have ad := add_run l [49] (by omega) (by simp)
    go_upto_region 6 with fail
    refine region_slots [some 39, some 40, some 41, some 42, some 43, some 44, some 45, some 46, some 47, some 38, some 48, some 49, some 15, none, some 16] [none, none, none, none, none, none, none, none, none, none, none, none, none, some 12, none] 66 [(4, .int .i64 more), (10, .bool false), (11, .pointer (some ⟨db, 0, none⟩)), (12, .string ⟨l.toArray⟩), (13, .pointer (some ⟨b13, 0, none⟩)), (14, .int .i64 4)] (by kernel_rfl) (by kernel_rfl) ⟨by rfl, by rfl, by intro k v hk; simp only [List.mem_cons, List.not_mem_nil, or_false, Prod.mk.injEq] at hk; rcases hk with ⟨rfl, rfl⟩ | ⟨rfl, rfl⟩ | ⟨rfl, rfl⟩ | ⟨rfl, rfl⟩ | ⟨rfl, rfl⟩ | ⟨rfl, rfl⟩ <;> rfl⟩ ?_
    apply step_fix
    · intro a W Zs hS hFm hz hd
      have h11 := ev_get hFm.size (hFm.old 11 (.pointer (some ⟨db, 0, none⟩)) (by simp))
      have hq := (hD.drew1.later hS).at
      unfold confBox at hq
      refine .inl ⟨wanted_none rfl _, fun K hK => ?_⟩
      have HK := Lib.hid hK
      clear hd hFm hK
      go_simp
      exact HK.out _ _ rfl (Below.refl _ _)
    simp only [List.nil_append, List.cons_append]
    apply step_fix
    · intro a W Zs hS hFm hz hd
      have h12 := ev_get hFm.size (hFm.old 12 (.string ⟨l.toArray⟩) (by simp))
      refine .inl ⟨wanted_none rfl _, fun K hK => ?_⟩
      have HK := Lib.hid hK
      clear hd hFm hK
      go_simp
      exact HK.out _ _ rfl (Below.refl _ _)
    simp only [List.nil_append, List.cons_append]
    apply step_blk
    · intro a W Zs hS hFm hz hd
      refine .inl ⟨wanted_none rfl _, fun K hK => ?_⟩
      have HK := Lib.hid hK
      clear hd hFm hK
      go_simp
      exact HK.out _ _ ⟨_, rfl, Blk.new _ _ _, .inr (.inl ⟨Nat.le_refl _, by simp⟩)⟩ (alloc_below _ _)
    simp only [List.nil_append, List.cons_append]
    apply step_fix
    · intro a W Zs hS hFm hz hd
      have h4 := ev_get hFm.size (hFm.old 4 (.int .i64 more) (by simp))
      refine .inl ⟨wanted_none rfl _, fun K hK => ?_⟩
      have HK := Lib.hid hK
      clear hd hFm hK
      go_simp
      exact HK.out _ _ rfl (Below.refl _ _)
    simp only [List.nil_append, List.cons_append]
    apply step_fix
    · intro a W Zs hS hFm hz hd
      have h42 := ev_get hFm.size (hd 3 42 rfl rfl)
      refine .inl ⟨wanted_none rfl _, fun K hK => ?_⟩
      have HK := Lib.hid hK
      clear hd hFm hK
      go_simp
      refine (HW2.out _).mono ?_
      rintro e W' ⟨rfl, rfl⟩
      exact HK.out _ _ rfl (Below.refl _ _)
    simp only [List.nil_append, List.cons_append]
    apply step_ptr
    · intro a W Zs hS hFm hz hd
      obtain ⟨b41, e41, q41, f41⟩ := hd 2 41 rfl rfl
      have h41 := ev_get hFm.size e41
      have h43 := ev_get hFm.size (hd 4 43 rfl rfl)
      refine .inl ⟨wanted_none rfl _, fun K hK => ?_⟩
      have HK := Lib.hid hK
      clear hd hFm hK
      go_simp
      exact HK.out _ _ ⟨b41, rfl, q41, f41.imp id (foot_dep 2 rfl rfl rfl _)⟩ (Below.refl _ _)
    simp only [List.nil_append, List.cons_append]
    apply step_fix
    · intro a W Zs hS hFm hz hd
      obtain ⟨b44, e44, q44, f44⟩ := hd 5 44 rfl rfl
      have h44 := ev_get hFm.size e44
      have hq := q44.at
      refine .inl ⟨wanted_none rfl _, fun K hK => ?_⟩
      have HK := Lib.hid hK
      clear hd hFm hK
      go_simp
      exact HK.out _ _ rfl (Below.refl _ _)
    simp only [List.nil_append, List.cons_append]
    apply step_fix
    · intro a W Zs hS hFm hz hd
      have h40 := ev_get hFm.size (hd 1 40 rfl rfl)
      have h45 := ev_get hFm.size (hd 6 45 rfl rfl)
      refine .inl ⟨wanted_none rfl _, fun K hK => ?_⟩
      have HK := Lib.hid hK
      clear hd hFm hK
      go_simp
      exact HK.out _ _ rfl (Below.refl _ _)
    simp only [List.nil_append, List.cons_append]
    refine step_of (rdF _ (zeroF) (4)) (rdF_good _ _ _) ?_ ?_
    · intro a W Zs hS hFm hz hd
      have h39 := ev_get hFm.size (hd 0 39 rfl rfl)
      have h46 := ev_get hFm.size (hd 7 46 rfl rfl)
      refine .inl ⟨wanted_none rfl _, fun K hK => ?_⟩
      have HK := Lib.hid hK
      clear hd hFm hK
      go_simp
      refine (HR2.out _).mono ?_
      rintro e W' ⟨ra, rc, rfl, hr, hfr, hb⟩
      exact HK.out _ _ ⟨ra, rc, rfl, hr, hr.foot hfr⟩ hb
    simp only [List.nil_append, List.cons_append]
    refine step_of (rdF _ (zeroF) (4)) (rdF_good _ _ _) ?_ ?_
    · intro a W Zs hS hFm hz hd
      obtain ⟨a47, c47, e47, r47, f47⟩ := hd 8 47 rfl rfl
      have h47 := ev_get hFm.size e47
      refine .inl ⟨wanted_none rfl _, fun K hK => ?_⟩
      have HK := Lib.hid hK
      clear hd hFm hK
      go_simp
      exact HK.out _ _ ⟨a47, c47, rfl, r47, ft_mono f47 (foot_dep 8 rfl rfl rfl)⟩ (Below.refl _ _)
    simp only [List.nil_append, List.cons_append]
    refine step_of (frF _ (zeroF)) (frF_good _ _) ?_ ?_
    · intro a W Zs hS hFm hz hd
      obtain ⟨a38, c38, e38, r38, f38⟩ := hd 9 38 rfl rfl
      have h38 := ev_get hFm.size e38
      refine .inl ⟨wanted_none rfl _, fun K hK => ?_⟩
      have HK := Lib.hid hK
      clear hd hFm hK
      go_simp
      exact HK.out _ _ ⟨a38, c38, rfl, r38, ft_mono f38 (foot_dep 9 rfl rfl rfl)⟩ (Below.refl _ _)
    simp only [List.nil_append, List.cons_append]
    apply step_fix
    · intro a W Zs hS hFm hz hd
      obtain ⟨a38, c38, e38, r38, f38⟩ := hd 9 38 rfl rfl
      have h38 := ev_get hFm.size e38
      refine .inl ⟨wanted_none rfl _, fun K hK => ?_⟩
      have HK := Lib.hid hK
      clear hd hFm hK
      go_simp
      exact HK.out _ _ rfl (Below.refl _ _)
    simp only [List.nil_append, List.cons_append]
    refine step_of (boxF _ 29 6) (boxF_good _ _ _) ?_ ?_
    · intro a W Zs hS hFm hz hd
      refine .inl ⟨wanted_none rfl _, fun K hK => ?_⟩
      have HK := Lib.hid hK
      clear hd hFm hK
      go_simp
      exact HK.out _ _ ⟨_, _, rfl, rfl, Blk.new _ _ _, .inl ⟨Nat.le_refl _, by simp⟩⟩ (alloc_below _ _)
    simp only [List.nil_append, List.cons_append]
    refine step_of (frBoxF _ (zeroF)) (frBoxF_good _ _) ?_ ?_
    · intro a W Zs hS hFm hz hd hap
      obtain ⟨b15, cs15, e15, n15, q15, z15⟩ := hd 12 15 rfl rfl
      have h15 := ev_get hFm.size e15
      obtain ⟨a48, c48, e48, r48, f48⟩ := hd 10 48 rfl rfl
      have h48 := ev_get hFm.size e48
      have hB0 := (hz 12 _ rfl z15).1
      obtain ⟨u0, u1, u2, u3, u4, u5, rfl⟩ := arr6 n15
      have hq := q15.at
      have hfz := q15.frozen
      refine ⟨wanted_none rfl _, b15, z15, fun K hK => ?_⟩
      have HK := Lib.hid hK
      clear hd hFm hK
      go_simp
      exact HK.out undef _ (Only.fill6 _ _ _ _ _ _ _ _) (fun d hd' => by injection hd' with hd'; subst hd'; exact ⟨⟨b15, a48, c48, e15, q15.fill6 _ _ _ _ _ _, r48.agree f48 (store_apart (Only.fill6 W b15 _ _ _ _ _ _) hB0 z15 hap 10 rfl (by decide)), .inr (.inl rfl), ft_mono f48 (foot_depS 10 rfl rfl rfl)⟩, ⟨b15, _, e15, rfl, q15.fill6 _ _ _ _ _ _, z15⟩⟩)
    simp only [List.nil_append, List.cons_append]
    apply step_fix
    · intro a W Zs hS hFm hz hd
      have h49 := ev_get hFm.size (hd 11 49 rfl rfl)
      refine .inl ⟨wanted_none rfl _, fun K hK => ?_⟩
      have HK := Lib.hid hK
      clear hd hFm hK
      go_simp
      exact HK.out _ _ rfl (Below.refl _ _)
    simp only [List.nil_append, List.cons_append]
    intro a w4 Zs hS hFm hz hd
    have e16 := hd 14 16 rfl
    have e4 := hFm.old 4 (.int .i64 more) (by simp)
    have e10 := hFm.old 10 (.bool false) (by simp)
    have e11 := hFm.old 11 (.pointer (some ⟨db, 0, none⟩)) (by simp)
    have e12 := hFm.old 12 (.string ⟨l.toArray⟩) (by simp)
    have e13 := hFm.old 13 (.pointer (some ⟨b13, 0, none⟩)) (by simp)
    have e14 := hFm.old 14 (.int .i64 4) (by simp)
    have hsz := hFm.size
    have hdf := hFm.defers
    clear hd hFm
    obtain ⟨t, df⟩ := a
    simp only at hsz hdf
    subst hdf
    obtain ⟨x, hx⟩ : ∃ x : Nat → Value, ∀ i, t.getD i undef = x i := ⟨fun i => t.getD i undef, fun _ => rfl⟩
    have h16 := (hx 16).symm.trans e16
    have h4 := (hx 4).symm.trans e4
    have h10 := (hx 10).symm.trans e10
    have h11 := (hx 11).symm.trans e11
    have h12 := (hx 12).symm.trans e12
    have h13 := (hx 13).symm.trans e13
    have h14 := (hx 14).symm.trans e14
    have ht' : t = #[x 0, x 1, x 2, x 3, x 4, x 5, x 6, x 7, x 8, x 9, x 10, x 11, x 12, x 13, x 14, x 15, x 16, x 17, x 18, x 19, x 20, x 21, x 22, x 23, x 24, x 25, x 26, x 27, x 28, x 29, x 30, x 31, x 32, x 33, x 34, x 35, x 36, x 37, x 38, x 39, x 40, x 41, x 42, x 43, x 44, x 45, x 46, x 47, x 48, x 49, x 50, x 51, x 52, x 53, x 54, x 55, x 56, x 57, x 58, x 59, x 60, x 61, x 62, x 63, x 64, x 65] := frame_lit t 66 hsz x hx
    clear hx hsz hz e16 e4 e10 e11 e12 e13 e14
    subst ht'
    dsimp only
    rw [h16, h4, h10, h11, h12, h13, h14]
    clear h16 h4 h10 h11 h12 h13 h14
    have hb2 := from_drew hS
    replace hB := hB.trans (hb2.mono hB.size)
    have qX := (q13.later hb2).at
    unfold frBox zeroF at qX
    clear hS hb2 q13 hD HR2 HW2 T2 ad
    have d1 : decide (0 < l.length) = true := by simp; omega
    go_wp2
    go_ret
    exact ⟨rfl, hB⟩
  · have HR2 := Lib.hid (fun W => fRead_at d da dc (l ++ [35]) W hok (by simp; omega) _ _ (T2.out 35))
    have ad := add_run l [35] (by omega) (by simp)
    go_upto_region 6 with fail
    refine region_slots [some 39, some 40, some 41, some 42, some 43, some 44, some 45, some 46, some 47, some 38, some 48, some 49, some 15, none, some 16] [none, none, none, none, none, none, none, none, none, none, none, none, none, some 12, none] 66 [(4, .int .i64 more), (10, .bool false), (11, .pointer (some ⟨db, 0, none⟩)), (12, .string ⟨l.toArray⟩), (13, .pointer (some ⟨b13, 0, none⟩)), (14, .int .i64 4)] (by kernel_rfl) (by kernel_rfl) ⟨by rfl, by rfl, by intro k v hk; simp only [List.mem_cons, List.not_mem_nil, or_false, Prod.mk.injEq] at hk; rcases hk with ⟨rfl, rfl⟩ | ⟨rfl, rfl⟩ | ⟨rfl, rfl⟩ | ⟨rfl, rfl⟩ | ⟨rfl, rfl⟩ | ⟨rfl, rfl⟩ <;> rfl⟩ ?_
    apply step_fix
    · intro a W Zs hS hFm hz hd
      have h11 := ev_get hFm.size (hFm.old 11 (.pointer (some ⟨db, 0, none⟩)) (by simp))
      have hq := (hD.drew1.later hS).at
      unfold confBox at hq
      refine .inl ⟨wanted_none rfl _, fun K hK => ?_⟩
      have HK := Lib.hid hK
      clear hd hFm hK
      go_simp
      exact HK.out _ _ rfl (Below.refl _ _)
    simp only [List.nil_append, List.cons_append]
    apply step_fix
    · intro a W Zs hS hFm hz hd
      have h12 := ev_get hFm.size (hFm.old 12 (.string ⟨l.toArray⟩) (by simp))
      refine .inl ⟨wanted_none rfl _, fun K hK => ?_⟩
      have HK := Lib.hid hK
      clear hd hFm hK
      go_simp
      exact HK.out _ _ rfl (Below.refl _ _)
    simp only [List.nil_append, List.cons_append]
    apply step_blk
    · intro a W Zs hS hFm hz hd
      refine .inl ⟨wanted_none rfl _, fun K hK => ?_⟩
      have HK := Lib.hid hK
      clear hd hFm hK
      go_simp
      exact HK.out _ _ ⟨_, rfl, Blk.new _ _ _, .inr (.inl ⟨Nat.le_refl _, by simp⟩)⟩ (alloc_below _ _)
    simp only [List.nil_append, List.cons_append]
    apply step_fix
    · intro a W Zs hS hFm hz hd
      have h4 := ev_get hFm.size (hFm.old 4 (.int .i64 more) (by simp))
      refine .inl ⟨wanted_none rfl _, fun K hK => ?_⟩
      have HK := Lib.hid hK
      clear hd hFm hK
      go_simp
      exact HK.out _ _ rfl (Below.refl _ _)
    simp only [List.nil_append, List.cons_append]
    apply step_fix
    · intro a W Zs hS hFm hz hd
      have h42 := ev_get hFm.size (hd 3 42 rfl rfl)
      refine .inl ⟨wanted_none rfl _, fun K hK => ?_⟩
      have HK := Lib.hid hK
      clear hd hFm hK
      go_simp
      refine (HW2.out _).mono ?_
      rintro e W' ⟨rfl, rfl⟩
      exact HK.out _ _ rfl (Below.refl _ _)
    simp only [List.nil_append, List.cons_append]
    apply step_ptr
    · intro a W Zs hS hFm hz hd
      obtain ⟨b41, e41, q41, f41⟩ := hd 2 41 rfl rfl
      have h41 := ev_get hFm.size e41
      have h43 := ev_get hFm.size (hd 4 43 rfl rfl)
      refine .inl ⟨wanted_none rfl _, fun K hK => ?_⟩
      have HK := Lib.hid hK
      clear hd hFm hK
      go_simp
      exact HK.out _ _ ⟨b41, rfl, q41, f41.imp id (foot_dep 2 rfl rfl rfl _)⟩ (Below.refl _ _)
    simp only [List.nil_append, List.cons_append]
    apply step_fix
    · intro a W Zs hS hFm hz hd
      obtain ⟨b44, e44, q44, f44⟩ := hd 5 44 rfl rfl
      have h44 := ev_get hFm.size e44
      have hq := q44.at
      refine .inl ⟨wanted_none rfl _, fun K hK => ?_⟩
      have HK := Lib.hid hK
      clear hd hFm hK
      go_simp
      exact HK.out _ _ rfl (Below.refl _ _)
    simp only [List.nil_append, List.cons_append]
    apply step_fix
    · intro a W Zs hS hFm hz hd
      have h40 := ev_get hFm.size (hd 1 40 rfl rfl)
      have h45 := ev_get hFm.size (hd 6 45 rfl rfl)
      refine .inl ⟨wanted_none rfl _, fun K hK => ?_⟩
      have HK := Lib.hid hK
      clear hd hFm hK
      go_simp
      exact HK.out _ _ rfl (Below.refl _ _)
    simp only [List.nil_append, List.cons_append]
    refine step_of (rdF _ (zeroF) (4)) (rdF_good _ _ _) ?_ ?_
    · intro a W Zs hS hFm hz hd
      have h39 := ev_get hFm.size (hd 0 39 rfl rfl)
      have h46 := ev_get hFm.size (hd 7 46 rfl rfl)
      refine .inl ⟨wanted_none rfl _, fun K hK => ?_⟩
      have HK := Lib.hid hK
      clear hd hFm hK
      go_simp
      refine (HR2.out _).mono ?_
      rintro e W' ⟨ra, rc, rfl, hr, hfr, hb⟩
      exact HK.out _ _ ⟨ra, rc, rfl, hr, hr.foot hfr⟩ hb
    simp only [List.nil_append, List.cons_append]
    refine step_of (rdF _ (zeroF) (4)) (rdF_good _ _ _) ?_ ?_
    · intro a W Zs hS hFm hz hd
      obtain ⟨a47, c47, e47, r47, f47⟩ := hd 8 47 rfl rfl
      have h47 := ev_get hFm.size e47
      refine .inl ⟨wanted_none rfl _, fun K hK => ?_⟩
      have HK := Lib.hid hK
      clear hd hFm hK
      go_simp
      exact HK.out _ _ ⟨a47, c47, rfl, r47, ft_mono f47 (foot_dep 8 rfl rfl rfl)⟩ (Below.refl _ _)
    simp only [List.nil_append, List.cons_append]
    refine step_of (frF _ (zeroF)) (frF_good _ _) ?_ ?_
    · intro a W Zs hS hFm hz hd
      obtain ⟨a38, c38, e38, r38, f38⟩ := hd 9 38 rfl rfl
      have h38 := ev_get hFm.size e38
      refine .inl ⟨wanted_none rfl _, fun K hK => ?_⟩
      have HK := Lib.hid hK
      clear hd hFm hK
      go_simp
      exact HK.out _ _ ⟨a38, c38, rfl, r38, ft_mono f38 (foot_dep 9 rfl rfl rfl)⟩ (Below.refl _ _)
    simp only [List.nil_append, List.cons_append]
    apply step_fix
    · intro a W Zs hS hFm hz hd
      obtain ⟨a38, c38, e38, r38, f38⟩ := hd 9 38 rfl rfl
      have h38 := ev_get hFm.size e38
      refine .inl ⟨wanted_none rfl _, fun K hK => ?_⟩
      have HK := Lib.hid hK
      clear hd hFm hK
      go_simp
      exact HK.out _ _ rfl (Below.refl _ _)
    simp only [List.nil_append, List.cons_append]
    refine step_of (boxF _ 29 6) (boxF_good _ _ _) ?_ ?_
    · intro a W Zs hS hFm hz hd
      refine .inl ⟨wanted_none rfl _, fun K hK => ?_⟩
      have HK := Lib.hid hK
      clear hd hFm hK
      go_simp
      exact HK.out _ _ ⟨_, _, rfl, rfl, Blk.new _ _ _, .inl ⟨Nat.le_refl _, by simp⟩⟩ (alloc_below _ _)
    simp only [List.nil_append, List.cons_append]
    refine step_of (frBoxF _ (zeroF)) (frBoxF_good _ _) ?_ ?_
    · intro a W Zs hS hFm hz hd hap
      obtain ⟨b15, cs15, e15, n15, q15, z15⟩ := hd 12 15 rfl rfl
      have h15 := ev_get hFm.size e15
      obtain ⟨a48, c48, e48, r48, f48⟩ := hd 10 48 rfl rfl
      have h48 := ev_get hFm.size e48
      have hB0 := (hz 12 _ rfl z15).1
      obtain ⟨u0, u1, u2, u3, u4, u5, rfl⟩ := arr6 n15
      have hq := q15.at
      have hfz := q15.frozen
      refine ⟨wanted_none rfl _, b15, z15, fun K hK => ?_⟩
      have HK := Lib.hid hK
      clear hd hFm hK
      go_simp
      exact HK.out undef _ (Only.fill6 _ _ _ _ _ _ _ _) (fun d hd' => by injection hd' with hd'; subst hd'; exact ⟨⟨b15, a48, c48, e15, q15.fill6 _ _ _ _ _ _, r48.agree f48 (store_apart (Only.fill6 W b15 _ _ _ _ _ _) hB0 z15 hap 10 rfl (by decide)), .inr (.inl rfl), ft_mono f48 (foot_depS 10 rfl rfl rfl)⟩, ⟨b15, _, e15, rfl, q15.fill6 _ _ _ _ _ _, z15⟩⟩)
    simp only [List.nil_append, List.cons_append]
    apply step_fix
    · intro a W Zs hS hFm hz hd
      have h49 := ev_get hFm.size (hd 11 49 rfl rfl)
      refine .inl ⟨wanted_none rfl _, fun K hK => ?_⟩
      have HK := Lib.hid hK
      clear hd hFm hK
      go_simp
      exact HK.out _ _ rfl (Below.refl _ _)
    simp only [List.nil_append, List.cons_append]
    intro a w4 Zs hS hFm hz hd
    have e16 := hd 14 16 rfl
    have e4 := hFm.old 4 (.int .i64 more) (by simp)
    have e10 := hFm.old 10 (.bool false) (by simp)
    have e11 := hFm.old 11 (.pointer (some ⟨db, 0, none⟩)) (by simp)
    have e12 := hFm.old 12 (.string ⟨l.toArray⟩) (by simp)
    have e13 := hFm.old 13 (.pointer (some ⟨b13, 0, none⟩)) (by simp)
    have e14 := hFm.old 14 (.int .i64 4) (by simp)
    have hsz := hFm.size
    have hdf := hFm.defers
    clear hd hFm
    obtain ⟨t, df⟩ := a
    simp only at hsz hdf
    subst hdf
    obtain ⟨x, hx⟩ : ∃ x : Nat → Value, ∀ i, t.getD i undef = x i := ⟨fun i => t.getD i undef, fun _ => rfl⟩
    have h16 := (hx 16).symm.trans e16
    have h4 := (hx 4).symm.trans e4
    have h10 := (hx 10).symm.trans e10
    have h11 := (hx 11).symm.trans e11
    have h12 := (hx 12).symm.trans e12
    have h13 := (hx 13).symm.trans e13
    have h14 := (hx 14).symm.trans e14
    have ht' : t = #[x 0, x 1, x 2, x 3, x 4, x 5, x 6, x 7, x 8, x 9, x 10, x 11, x 12, x 13, x 14, x 15, x 16, x 17, x 18, x 19, x 20, x 21, x 22, x 23, x 24, x 25, x 26, x 27, x 28, x 29, x 30, x 31, x 32, x 33, x 34, x 35, x 36, x 37, x 38, x 39, x 40, x 41, x 42, x 43, x 44, x 45, x 46, x 47, x 48, x 49, x 50, x 51, x 52, x 53, x 54, x 55, x 56, x 57, x 58, x 59, x 60, x 61, x 62, x 63, x 64, x 65] := frame_lit t 66 hsz x hx
    clear hx hsz hz e16 e4 e10 e11 e12 e13 e14
    subst ht'
    dsimp only
    rw [h16, h4, h10, h11, h12, h13, h14]
    clear h16 h4 h10 h11 h12 h13 h14
    have hb2 := from_drew hS
    replace hB := hB.trans (hb2.mono hB.size)
    have qX := (q13.later hb2).at
    unfold frBox zeroF at qX
    clear hS hb2 q13 hD HR2 HW2 T2 ad
    have d1 : decide (0 < l.length) = true := by simp; omega
    go_wp2
    go_ret
    exact ⟨rfl, hB⟩
  · have HR2 := Lib.hid (fun W => fRead_at d da dc (l ++ [46]) W hok (by simp; omega) _ _ (T2.out 46))
    have ad := add_run l [46] (by omega) (by simp)
    go_upto_region 6 with fail
    refine region_slots [some 39, some 40, some 41, some 42, some 43, some 44, some 45, some 46, some 47, some 38, some 48, some 49, some 15, none, some 16] [none, none, none, none, none, none, none, none, none, none, none, none, none, some 12, none] 66 [(4, .int .i64 more), (10, .bool false), (11, .pointer (some ⟨db, 0, none⟩)), (12, .string ⟨l.toArray⟩), (13, .pointer (some ⟨b13, 0, none⟩)), (14, .int .i64 4)] (by kernel_rfl) (by kernel_rfl) ⟨by rfl, by rfl, by intro k v hk; simp only [List.mem_cons, List.not_mem_nil, or_false, Prod.mk.injEq] at hk; rcases hk with ⟨rfl, rfl⟩ | ⟨rfl, rfl⟩ | ⟨rfl, rfl⟩ | ⟨rfl, rfl⟩ | ⟨rfl, rfl⟩ | ⟨rfl, rfl⟩ <;> rfl⟩ ?_
    apply step_fix
    · intro a W Zs hS hFm hz hd
      have h11 := ev_get hFm.size (hFm.old 11 (.pointer (some ⟨db, 0, none⟩)) (by simp))
      have hq := (hD.drew1.later hS).at
      unfold confBox at hq
      refine .inl ⟨wanted_none rfl _, fun K hK => ?_⟩
      have HK := Lib.hid hK
      clear hd hFm hK
      go_simp
      exact HK.out _ _ rfl (Below.refl _ _)
    simp only [List.nil_append, List.cons_append]
    apply step_fix
    · intro a W Zs hS hFm hz hd
      have h12 := ev_get hFm.size (hFm.old 12 (.string ⟨l.toArray⟩) (by simp))
      refine .inl ⟨wanted_none rfl _, fun K hK => ?_⟩
      have HK := Lib.hid hK
      clear hd hFm hK
      go_simp
      exact HK.out _ _ rfl (Below.refl _ _)
    simp only [List.nil_append, List.cons_append]
    apply step_blk
    · intro a W Zs hS hFm hz hd
      refine .inl ⟨wanted_none rfl _, fun K hK => ?_⟩
      have HK := Lib.hid hK
      clear hd hFm hK
      go_simp
      exact HK.out _ _ ⟨_, rfl, Blk.new _ _ _, .inr (.inl ⟨Nat.le_refl _, by simp⟩)⟩ (alloc_below _ _)
    simp only [List.nil_append, List.cons_append]
    apply step_fix
    · intro a W Zs hS hFm hz hd
      have h4 := ev_get hFm.size (hFm.old 4 (.int .i64 more) (by simp))
      refine .inl ⟨wanted_none rfl _, fun K hK => ?_⟩
      have HK := Lib.hid hK
      clear hd hFm hK
      go_simp
      exact HK.out _ _ rfl (Below.refl _ _)
    simp only [List.nil_append, List.cons_append]
    apply step_fix
    · intro a W Zs hS hFm hz hd
      have h42 := ev_get hFm.size (hd 3 42 rfl rfl)
      refine .inl ⟨wanted_none rfl _, fun K hK => ?_⟩
      have HK := Lib.hid hK
      clear hd hFm hK
      go_simp
      refine (HW2.out _).mono ?_
      rintro e W' ⟨rfl, rfl⟩
      exact HK.out _ _ rfl (Below.refl _ _)
    simp only [List.nil_append, List.cons_append]
    apply step_ptr
    · intro a W Zs hS hFm hz hd
      obtain ⟨b41, e41, q41, f41⟩ := hd 2 41 rfl rfl
      have h41 := ev_get hFm.size e41
      have h43 := ev_get hFm.size (hd 4 43 rfl rfl)
      refine .inl ⟨wanted_none rfl _, fun K hK => ?_⟩
      have HK := Lib.hid hK
      clear hd hFm hK
      go_simp
      exact HK.out _ _ ⟨b41, rfl, q41, f41.imp id (foot_dep 2 rfl rfl rfl _)⟩ (Below.refl _ _)
    simp only [List.nil_append, List.cons_append]
    apply step_fix
    · intro a W Zs hS hFm hz hd
      obtain ⟨b44, e44, q44, f44⟩ := hd 5 44 rfl rfl
      have h44 := ev_get hFm.size e44
      have hq := q44.at
      refine .inl ⟨wanted_none rfl _, fun K hK => ?_⟩
      have HK := Lib.hid hK
      clear hd hFm hK
      go_simp
      exact HK.out _ _ rfl (Below.refl _ _)
    simp only [List.nil_append, List.cons_append]
    apply step_fix
    · intro a W Zs hS hFm hz hd
      have h40 := ev_get hFm.size (hd 1 40 rfl rfl)
      have h45 := ev_get hFm.size (hd 6 45 rfl rfl)
      refine .inl ⟨wanted_none rfl _, fun K hK => ?_⟩
      have HK := Lib.hid hK
      clear hd hFm hK
      go_simp
      exact HK.out _ _ rfl (Below.refl _ _)
    simp only [List.nil_append, List.cons_append]
    refine step_of (rdF _ (zeroF) (4)) (rdF_good _ _ _) ?_ ?_
    · intro a W Zs hS hFm hz hd
      have h39 := ev_get hFm.size (hd 0 39 rfl rfl)
      have h46 := ev_get hFm.size (hd 7 46 rfl rfl)
      refine .inl ⟨wanted_none rfl _, fun K hK => ?_⟩
      have HK := Lib.hid hK
      clear hd hFm hK
      go_simp
      refine (HR2.out _).mono ?_
      rintro e W' ⟨ra, rc, rfl, hr, hfr, hb⟩
      exact HK.out _ _ ⟨ra, rc, rfl, hr, hr.foot hfr⟩ hb
    simp only [List.nil_append, List.cons_append]
    refine step_of (rdF _ (zeroF) (4)) (rdF_good _ _ _) ?_ ?_
    · intro a W Zs hS hFm hz hd
      obtain ⟨a47, c47, e47, r47, f47⟩ := hd 8 47 rfl rfl
      have h47 := ev_get hFm.size e47
      refine .inl ⟨wanted_none rfl _, fun K hK => ?_⟩
      have HK := Lib.hid hK
      clear hd hFm hK
      go_simp
      exact HK.out _ _ ⟨a47, c47, rfl, r47, ft_mono f47 (foot_dep 8 rfl rfl rfl)⟩ (Below.refl _ _)
    simp only [List.nil_append, List.cons_append]
    refine step_of (frF _ (zeroF)) (frF_good _ _) ?_ ?_
    · intro a W Zs hS hFm hz hd
      obtain ⟨a38, c38, e38, r38, f38⟩ := hd 9 38 rfl rfl
      have h38 := ev_get hFm.size e38
      refine .inl ⟨wanted_none rfl _, fun K hK => ?_⟩
      have HK := Lib.hid hK
      clear hd hFm hK
      go_simp
      exact HK.out _ _ ⟨a38, c38, rfl, r38, ft_mono f38 (foot_dep 9 rfl rfl rfl)⟩ (Below.refl _ _)
    simp only [List.nil_append, List.cons_append]
    apply step_fix
    · intro a W Zs hS hFm hz hd
      obtain ⟨a38, c38, e38, r38, f38⟩ := hd 9 38 rfl rfl
      have h38 := ev_get hFm.size e38
      refine .inl ⟨wanted_none rfl _, fun K hK => ?_⟩
      have HK := Lib.hid hK
      clear hd hFm hK
      go_simp
      exact HK.out _ _ rfl (Below.refl _ _)
    simp only [List.nil_append, List.cons_append]
    refine step_of (boxF _ 29 6) (boxF_good _ _ _) ?_ ?_
    · intro a W Zs hS hFm hz hd
      refine .inl ⟨wanted_none rfl _, fun K hK => ?_⟩
      have HK := Lib.hid hK
      clear hd hFm hK
      go_simp
      exact HK.out _ _ ⟨_, _, rfl, rfl, Blk.new _ _ _, .inl ⟨Nat.le_refl _, by simp⟩⟩ (alloc_below _ _)
    simp only [List.nil_append, List.cons_append]
    refine step_of (frBoxF _ (zeroF)) (frBoxF_good _ _) ?_ ?_
    · intro a W Zs hS hFm hz hd hap
      obtain ⟨b15, cs15, e15, n15, q15, z15⟩ := hd 12 15 rfl rfl
      have h15 := ev_get hFm.size e15
      obtain ⟨a48, c48, e48, r48, f48⟩ := hd 10 48 rfl rfl
      have h48 := ev_get hFm.size e48
      have hB0 := (hz 12 _ rfl z15).1
      obtain ⟨u0, u1, u2, u3, u4, u5, rfl⟩ := arr6 n15
      have hq := q15.at
      have hfz := q15.frozen
      refine ⟨wanted_none rfl _, b15, z15, fun K hK => ?_⟩
      have HK := Lib.hid hK
      clear hd hFm hK
      go_simp
      exact HK.out undef _ (Only.fill6 _ _ _ _ _ _ _ _) (fun d hd' => by injection hd' with hd'; subst hd'; exact ⟨⟨b15, a48, c48, e15, q15.fill6 _ _ _ _ _ _, r48.agree f48 (store_apart (Only.fill6 W b15 _ _ _ _ _ _) hB0 z15 hap 10 rfl (by decide)), .inr (.inl rfl), ft_mono f48 (foot_depS 10 rfl rfl rfl)⟩, ⟨b15, _, e15, rfl, q15.fill6 _ _ _ _ _ _, z15⟩⟩)
    simp only [List.nil_append, List.cons_append]
    apply step_fix
    · intro a W Zs hS hFm hz hd
      have h49 := ev_get hFm.size (hd 11 49 rfl rfl)
      refine .inl ⟨wanted_none rfl _, fun K hK => ?_⟩
      have HK := Lib.hid hK
      clear hd hFm hK
      go_simp
      exact HK.out _ _ rfl (Below.refl _ _)
    simp only [List.nil_append, List.cons_append]
    intro a w4 Zs hS hFm hz hd
    have e16 := hd 14 16 rfl
    have e4 := hFm.old 4 (.int .i64 more) (by simp)
    have e10 := hFm.old 10 (.bool false) (by simp)
    have e11 := hFm.old 11 (.pointer (some ⟨db, 0, none⟩)) (by simp)
    have e12 := hFm.old 12 (.string ⟨l.toArray⟩) (by simp)
    have e13 := hFm.old 13 (.pointer (some ⟨b13, 0, none⟩)) (by simp)
    have e14 := hFm.old 14 (.int .i64 4) (by simp)
    have hsz := hFm.size
    have hdf := hFm.defers
    clear hd hFm
    obtain ⟨t, df⟩ := a
    simp only at hsz hdf
    subst hdf
    obtain ⟨x, hx⟩ : ∃ x : Nat → Value, ∀ i, t.getD i undef = x i := ⟨fun i => t.getD i undef, fun _ => rfl⟩
    have h16 := (hx 16).symm.trans e16
    have h4 := (hx 4).symm.trans e4
    have h10 := (hx 10).symm.trans e10
    have h11 := (hx 11).symm.trans e11
    have h12 := (hx 12).symm.trans e12
    have h13 := (hx 13).symm.trans e13
    have h14 := (hx 14).symm.trans e14
    have ht' : t = #[x 0, x 1, x 2, x 3, x 4, x 5, x 6, x 7, x 8, x 9, x 10, x 11, x 12, x 13, x 14, x 15, x 16, x 17, x 18, x 19, x 20, x 21, x 22, x 23, x 24, x 25, x 26, x 27, x 28, x 29, x 30, x 31, x 32, x 33, x 34, x 35, x 36, x 37, x 38, x 39, x 40, x 41, x 42, x 43, x 44, x 45, x 46, x 47, x 48, x 49, x 50, x 51, x 52, x 53, x 54, x 55, x 56, x 57, x 58, x 59, x 60, x 61, x 62, x 63, x 64, x 65] := frame_lit t 66 hsz x hx
    clear hx hsz hz e16 e4 e10 e11 e12 e13 e14
    subst ht'
    dsimp only
    rw [h16, h4, h10, h11, h12, h13, h14]
    clear h16 h4 h10 h11 h12 h13 h14
    have hb2 := from_drew hS
    replace hB := hB.trans (hb2.mono hB.size)
    have qX := (q13.later hb2).at
    unfold frBox zeroF at qX
    clear hS hb2 q13 hD HR2 HW2 T2 ad
    have d1 : decide (0 < l.length) = true := by simp; omega
    go_wp2
    go_ret
    exact ⟨rfl, hB⟩

end Go.Proofs.Ytafcjdcmbklfkaa

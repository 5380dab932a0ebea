/-
  GuardEnds' walk.
-/
import Derived.Test.YtfpbijcgbknklaaLaw80
import Derived.Test.YtfpbijcgbknklaaSlots3
namespace Go.Proofs.Ytfpbijcgbknklaa
open Go.RowKit Plait
set_option maxRecDepth 100000
set_option linter.unusedVariables false
set_option linter.unusedSimpArgs false

set_option maxHeartbeats 3200000 in
theorem guardEnds_walk (c : Cf) (a : Option Addr) (cap : Nat) (na : Option Addr) (ns : List Int) (nc : Nat) (x9 : Int) (w : World) (hrow : Row w a c.P) (iN : inI c.N) (iP : inI c.Pi) (iE : inI c.E) (iG : inI c.G) (iF : inI c.F)
    (hns : Row w na ns) (x1 : -9223372036854775808 ≤ x9) (x2 : x9 ≤ 9223372036854775807) :
    Calls Try.prog 5 #[.agg #[.int .i64 c.N, .int .i64 c.Pi, .int .i64 c.E, .int .i64 c.G, .int .i64 c.F, .slice a c.P.length cap], .slice na ns.length nc, .int .i64 x9] w fun e w' => e = .returned (.bool true) ∧ Below w.heap.size w w' := by
  have hB1 : Below w.heap.size w (w.alloc (.cells #[.int .i64 c.N, .int .i64 c.Pi, .int .i64 c.E, .int .i64 c.G, .int .i64 c.F, .slice a c.P.length cap] 24)) := alloc_below w _
  have k_c : Blk (w.alloc (.cells #[.int .i64 c.N, .int .i64 c.Pi, .int .i64 c.E, .int .i64 c.G, .int .i64 c.F, .slice a c.P.length cap] 24)) w.heap.size 24 (confBox c a cap) := Blk.newAt _ _ rfl
  have hB := hB1
  clear hB1
  go_enter Try.func5, Try.ntmps5
  go_wp2_with fail
  refine (known8_any _).mono ?_
  rintro e wn ⟨rfl, hb⟩
  replace hB := hB.trans (hb.mono hB.size)
  replace k_c := k_c.later hb
  clear hb
  have qC := k_c.at
  unfold confBox at qC
  go_wp2_with fail
  refine (make_any2 c a cap _ (hrow.later hB)).mono ?_
  rintro e wm ⟨da, dc, rfl, hrd, hfd, hcp, hb⟩
  replace hB := hB.trans (hb.mono hB.size)
  clear hb qC k_c hfd
  have hok := makeC_ok c
  generalize makeC c = d at *
  have hD : Blk (wm.alloc (.cells #[.int .i64 d.N, .int .i64 d.Pi, .int .i64 d.E, .int .i64 d.G, .int .i64 d.F, .slice da d.P.length dc] 24)) wm.heap.size 24 (confBox d da dc) := Blk.new wm _ _
  replace hB := hB.alloc hB.size (.cells #[.int .i64 d.N, .int .i64 d.Pi, .int .i64 d.E, .int .i64 d.G, .int .i64 d.F, .slice da d.P.length dc] 24)
  replace hrd := hrd.alloc (.cells #[.int .i64 d.N, .int .i64 d.Pi, .int .i64 d.E, .int .i64 d.G, .int .i64 d.F, .slice da d.P.length dc] 24)
  go_upto_region 4 with fail
  generalize wm.alloc (.cells #[.int .i64 d.N, .int .i64 d.Pi, .int .i64 d.E, .int .i64 d.G, .int .i64 d.F, .slice da d.P.length dc] 24) = wn at *
  generalize wm.heap.size = db at *
  have e0 := hok.e0; have g0 := hok.g0; have p0 := hok.p0; have p1 := hok.p1
  have b1 : IntKind.i64.wrap (2 * d.Pi) = 2 * d.Pi := wrap_in _ (by omega) (by omega)
  have hl := textL_length ns
  have hns2 := hns.later hB
  have HT := Lib.hid (fun W (h : Row W na ns) => text_any na ns nc W h)
  generalize textL ns = s at *
  refine region_slots [some 15, some 16, some 17, some 18, some 19, some 8, some 9] [none, none, none, none, none, none, none] 98 7 rfl (by kernel_rfl) (by kernel_rfl) rfl rfl ?_
  apply step_fix
  · intro a W Zs hS hFm hz hd
    have h7 := hFm.old 7 rfl
    conv at h7 => rhs; whnf
    replace h7 := ev_get hFm.size h7
    refine .inl ⟨wanted_none rfl _, fun K hK => ?_⟩
    have HK := Lib.hid hK
    clear hd hFm hK
    go_simp
    exact HK.out _ _ rfl (Below.refl _ _)
  simp only [List.nil_append, List.cons_append]
  apply step_fix
  · intro a W Zs hS hFm hz hd
    have h15 := ev_get hFm.size (hd 0 15 rfl rfl)
    have hq := (hD.drew1.later hS).at
    unfold confBox at hq
    refine .inl ⟨wanted_none rfl _, fun K hK => ?_⟩
    have HK := Lib.hid hK
    clear hd hFm hK
    go_simp
    exact HK.out _ _ rfl (Below.refl _ _)
  simp only [List.nil_append, List.cons_append]
  apply step_fix
  · intro a W Zs hS hFm hz hd
    have h16 := ev_get hFm.size (hd 1 16 rfl rfl)
    refine .inl ⟨wanted_none rfl _, fun K hK => ?_⟩
    have HK := Lib.hid hK
    clear hd hFm hK
    go_simp
    exact HK.out _ _ rfl (Below.refl _ _)
  simp only [List.nil_append, List.cons_append]
  apply step_fix
  · intro a W Zs hS hFm hz hd
    have h1 := hFm.old 1 rfl
    conv at h1 => rhs; whnf
    replace h1 := ev_get hFm.size h1
    refine .inl ⟨wanted_none rfl _, fun K hK => ?_⟩
    have HK := Lib.hid hK
    clear hd hFm hK
    go_simp
    exact HK.out _ _ rfl (Below.refl _ _)
  simp only [List.nil_append, List.cons_append]
  apply step_fix
  · intro a W Zs hS hFm hz hd
    have h18 := ev_get hFm.size (hd 3 18 rfl rfl)
    refine .inl ⟨wanted_none rfl _, fun K hK => ?_⟩
    have HK := Lib.hid hK
    clear hd hFm hK
    go_simp
    refine (HT.out _ (hns2.drew1.later hS)).mono ?_
    rintro e W' ⟨rfl, hb⟩
    exact HK.out _ _ rfl hb
  simp only [List.nil_append, List.cons_append]
  apply step_fix
  · intro a W Zs hS hFm hz hd
    have h17 := ev_get hFm.size (hd 2 17 rfl rfl)
    refine .inl ⟨wanted_none rfl _, fun K hK => ?_⟩
    have HK := Lib.hid hK
    clear hd hFm hK
    go_simp
    exact HK.out _ _ rfl (Below.refl _ _)
  simp only [List.nil_append, List.cons_append]
  apply step_fix
  · intro a W Zs hS hFm hz hd
    have h19 := ev_get hFm.size (hd 4 19 rfl rfl)
    refine .inl ⟨wanted_none rfl _, fun K hK => ?_⟩
    have HK := Lib.hid hK
    clear hd hFm hK
    go_simp
    exact HK.out _ _ rfl (Below.refl _ _)
  simp only [List.nil_append, List.cons_append]
  intro a w3 Zs hS hFm hz hd
  have e8 := hd 5 8 (by decide) rfl
  have e9 := hd 6 9 (by decide) rfl
  have e0 := hFm.old 0 rfl
  conv at e0 => rhs; whnf
  have e1 := hFm.old 1 rfl
  conv at e1 => rhs; whnf
  have e2 := hFm.old 2 rfl
  conv at e2 => rhs; whnf
  have e3 := hFm.old 3 rfl
  conv at e3 => rhs; whnf
  have e4 := hFm.old 4 rfl
  conv at e4 => rhs; whnf
  have e5 := hFm.old 5 rfl
  conv at e5 => rhs; whnf
  have e6 := hFm.old 6 rfl
  conv at e6 => rhs; whnf
  have e7 := hFm.old 7 rfl
  conv at e7 => rhs; whnf
  have e10 := hFm.old 10 rfl
  conv at e10 => rhs; whnf
  have e11 := hFm.old 11 rfl
  conv at e11 => rhs; whnf
  have e12 := hFm.old 12 rfl
  conv at e12 => rhs; whnf
  have e13 := hFm.old 13 rfl
  conv at e13 => rhs; whnf
  have e14 := hFm.old 14 rfl
  conv at e14 => rhs; whnf
  have e20 := hFm.old 20 rfl
  conv at e20 => rhs; whnf
  have e21 := hFm.old 21 rfl
  conv at e21 => rhs; whnf
  have e22 := hFm.old 22 rfl
  conv at e22 => rhs; whnf
  have e23 := hFm.old 23 rfl
  conv at e23 => rhs; whnf
  have e24 := hFm.old 24 rfl
  conv at e24 => rhs; whnf
  have e25 := hFm.old 25 rfl
  conv at e25 => rhs; whnf
  have e26 := hFm.old 26 rfl
  conv at e26 => rhs; whnf
  have e27 := hFm.old 27 rfl
  conv at e27 => rhs; whnf
  have e28 := hFm.old 28 rfl
  conv at e28 => rhs; whnf
  have e29 := hFm.old 29 rfl
  conv at e29 => rhs; whnf
  have e30 := hFm.old 30 rfl
  conv at e30 => rhs; whnf
  have e31 := hFm.old 31 rfl
  conv at e31 => rhs; whnf
  have e32 := hFm.old 32 rfl
  conv at e32 => rhs; whnf
  have e33 := hFm.old 33 rfl
  conv at e33 => rhs; whnf
  have e34 := hFm.old 34 rfl
  conv at e34 => rhs; whnf
  have e35 := hFm.old 35 rfl
  conv at e35 => rhs; whnf
  have e36 := hFm.old 36 rfl
  conv at e36 => rhs; whnf
  have e37 := hFm.old 37 rfl
  conv at e37 => rhs; whnf
  have e38 := hFm.old 38 rfl
  conv at e38 => rhs; whnf
  have e39 := hFm.old 39 rfl
  conv at e39 => rhs; whnf
  have e40 := hFm.old 40 rfl
  conv at e40 => rhs; whnf
  have e41 := hFm.old 41 rfl
  conv at e41 => rhs; whnf
  have e42 := hFm.old 42 rfl
  conv at e42 => rhs; whnf
  have e43 := hFm.old 43 rfl
  conv at e43 => rhs; whnf
  have e44 := hFm.old 44 rfl
  conv at e44 => rhs; whnf
  have e45 := hFm.old 45 rfl
  conv at e45 => rhs; whnf
  have e46 := hFm.old 46 rfl
  conv at e46 => rhs; whnf
  have e47 := hFm.old 47 rfl
  conv at e47 => rhs; whnf
  have e48 := hFm.old 48 rfl
  conv at e48 => rhs; whnf
  have e49 := hFm.old 49 rfl
  conv at e49 => rhs; whnf
  have e50 := hFm.old 50 rfl
  conv at e50 => rhs; whnf
  have e51 := hFm.old 51 rfl
  conv at e51 => rhs; whnf
  have e52 := hFm.old 52 rfl
  conv at e52 => rhs; whnf
  have e53 := hFm.old 53 rfl
  conv at e53 => rhs; whnf
  have e54 := hFm.old 54 rfl
  conv at e54 => rhs; whnf
  have e55 := hFm.old 55 rfl
  conv at e55 => rhs; whnf
  have e56 := hFm.old 56 rfl
  conv at e56 => rhs; whnf
  have e57 := hFm.old 57 rfl
  conv at e57 => rhs; whnf
  have e58 := hFm.old 58 rfl
  conv at e58 => rhs; whnf
  have e59 := hFm.old 59 rfl
  conv at e59 => rhs; whnf
  have e60 := hFm.old 60 rfl
  conv at e60 => rhs; whnf
  have e61 := hFm.old 61 rfl
  conv at e61 => rhs; whnf
  have e62 := hFm.old 62 rfl
  conv at e62 => rhs; whnf
  have e63 := hFm.old 63 rfl
  conv at e63 => rhs; whnf
  have e64 := hFm.old 64 rfl
  conv at e64 => rhs; whnf
  have e65 := hFm.old 65 rfl
  conv at e65 => rhs; whnf
  have e66 := hFm.old 66 rfl
  conv at e66 => rhs; whnf
  have e67 := hFm.old 67 rfl
  conv at e67 => rhs; whnf
  have e68 := hFm.old 68 rfl
  conv at e68 => rhs; whnf
  have e69 := hFm.old 69 rfl
  conv at e69 => rhs; whnf
  have e70 := hFm.old 70 rfl
  conv at e70 => rhs; whnf
  have e71 := hFm.old 71 rfl
  conv at e71 => rhs; whnf
  have e72 := hFm.old 72 rfl
  conv at e72 => rhs; whnf
  have e73 := hFm.old 73 rfl
  conv at e73 => rhs; whnf
  have e74 := hFm.old 74 rfl
  conv at e74 => rhs; whnf
  have e75 := hFm.old 75 rfl
  conv at e75 => rhs; whnf
  have e76 := hFm.old 76 rfl
  conv at e76 => rhs; whnf
  have e77 := hFm.old 77 rfl
  conv at e77 => rhs; whnf
  have e78 := hFm.old 78 rfl
  conv at e78 => rhs; whnf
  have e79 := hFm.old 79 rfl
  conv at e79 => rhs; whnf
  have e80 := hFm.old 80 rfl
  conv at e80 => rhs; whnf
  have e81 := hFm.old 81 rfl
  conv at e81 => rhs; whnf
  have e82 := hFm.old 82 rfl
  conv at e82 => rhs; whnf
  have e83 := hFm.old 83 rfl
  conv at e83 => rhs; whnf
  have e84 := hFm.old 84 rfl
  conv at e84 => rhs; whnf
  have e85 := hFm.old 85 rfl
  conv at e85 => rhs; whnf
  have e86 := hFm.old 86 rfl
  conv at e86 => rhs; whnf
  have e87 := hFm.old 87 rfl
  conv at e87 => rhs; whnf
  have e88 := hFm.old 88 rfl
  conv at e88 => rhs; whnf
  have e89 := hFm.old 89 rfl
  conv at e89 => rhs; whnf
  have e90 := hFm.old 90 rfl
  conv at e90 => rhs; whnf
  have e91 := hFm.old 91 rfl
  conv at e91 => rhs; whnf
  have e92 := hFm.old 92 rfl
  conv at e92 => rhs; whnf
  have e93 := hFm.old 93 rfl
  conv at e93 => rhs; whnf
  have e94 := hFm.old 94 rfl
  conv at e94 => rhs; whnf
  have e95 := hFm.old 95 rfl
  conv at e95 => rhs; whnf
  have e96 := hFm.old 96 rfl
  conv at e96 => rhs; whnf
  have e97 := hFm.old 97 rfl
  conv at e97 => rhs; whnf
  have hsz := hFm.size
  have hdf := hFm.defers
  clear hd hFm
  obtain ⟨t, df⟩ := a
  simp only at hsz hdf
  subst hdf
  obtain ⟨x, hx⟩ : ∃ x : Nat → Value, ∀ i, t.getD i undef = x i := ⟨fun i => t.getD i undef, fun _ => rfl⟩
  have h8 := (hx 8).symm.trans e8
  have h9 := (hx 9).symm.trans e9
  have h0 := (hx 0).symm.trans e0
  have h1 := (hx 1).symm.trans e1
  have h2 := (hx 2).symm.trans e2
  have h3 := (hx 3).symm.trans e3
  have h4 := (hx 4).symm.trans e4
  have h5 := (hx 5).symm.trans e5
  have h6 := (hx 6).symm.trans e6
  have h7 := (hx 7).symm.trans e7
  have h10 := (hx 10).symm.trans e10
  have h11 := (hx 11).symm.trans e11
  have h12 := (hx 12).symm.trans e12
  have h13 := (hx 13).symm.trans e13
  have h14 := (hx 14).symm.trans e14
  have h20 := (hx 20).symm.trans e20
  have h21 := (hx 21).symm.trans e21
  have h22 := (hx 22).symm.trans e22
  have h23 := (hx 23).symm.trans e23
  have h24 := (hx 24).symm.trans e24
  have h25 := (hx 25).symm.trans e25
  have h26 := (hx 26).symm.trans e26
  have h27 := (hx 27).symm.trans e27
  have h28 := (hx 28).symm.trans e28
  have h29 := (hx 29).symm.trans e29
  have h30 := (hx 30).symm.trans e30
  have h31 := (hx 31).symm.trans e31
  have h32 := (hx 32).symm.trans e32
  have h33 := (hx 33).symm.trans e33
  have h34 := (hx 34).symm.trans e34
  have h35 := (hx 35).symm.trans e35
  have h36 := (hx 36).symm.trans e36
  have h37 := (hx 37).symm.trans e37
  have h38 := (hx 38).symm.trans e38
  have h39 := (hx 39).symm.trans e39
  have h40 := (hx 40).symm.trans e40
  have h41 := (hx 41).symm.trans e41
  have h42 := (hx 42).symm.trans e42
  have h43 := (hx 43).symm.trans e43
  have h44 := (hx 44).symm.trans e44
  have h45 := (hx 45).symm.trans e45
  have h46 := (hx 46).symm.trans e46
  have h47 := (hx 47).symm.trans e47
  have h48 := (hx 48).symm.trans e48
  have h49 := (hx 49).symm.trans e49
  have h50 := (hx 50).symm.trans e50
  have h51 := (hx 51).symm.trans e51
  have h52 := (hx 52).symm.trans e52
  have h53 := (hx 53).symm.trans e53
  have h54 := (hx 54).symm.trans e54
  have h55 := (hx 55).symm.trans e55
  have h56 := (hx 56).symm.trans e56
  have h57 := (hx 57).symm.trans e57
  have h58 := (hx 58).symm.trans e58
  have h59 := (hx 59).symm.trans e59
  have h60 := (hx 60).symm.trans e60
  have h61 := (hx 61).symm.trans e61
  have h62 := (hx 62).symm.trans e62
  have h63 := (hx 63).symm.trans e63
  have h64 := (hx 64).symm.trans e64
  have h65 := (hx 65).symm.trans e65
  have h66 := (hx 66).symm.trans e66
  have h67 := (hx 67).symm.trans e67
  have h68 := (hx 68).symm.trans e68
  have h69 := (hx 69).symm.trans e69
  have h70 := (hx 70).symm.trans e70
  have h71 := (hx 71).symm.trans e71
  have h72 := (hx 72).symm.trans e72
  have h73 := (hx 73).symm.trans e73
  have h74 := (hx 74).symm.trans e74
  have h75 := (hx 75).symm.trans e75
  have h76 := (hx 76).symm.trans e76
  have h77 := (hx 77).symm.trans e77
  have h78 := (hx 78).symm.trans e78
  have h79 := (hx 79).symm.trans e79
  have h80 := (hx 80).symm.trans e80
  have h81 := (hx 81).symm.trans e81
  have h82 := (hx 82).symm.trans e82
  have h83 := (hx 83).symm.trans e83
  have h84 := (hx 84).symm.trans e84
  have h85 := (hx 85).symm.trans e85
  have h86 := (hx 86).symm.trans e86
  have h87 := (hx 87).symm.trans e87
  have h88 := (hx 88).symm.trans e88
  have h89 := (hx 89).symm.trans e89
  have h90 := (hx 90).symm.trans e90
  have h91 := (hx 91).symm.trans e91
  have h92 := (hx 92).symm.trans e92
  have h93 := (hx 93).symm.trans e93
  have h94 := (hx 94).symm.trans e94
  have h95 := (hx 95).symm.trans e95
  have h96 := (hx 96).symm.trans e96
  have h97 := (hx 97).symm.trans e97
  have ht' : t = #[x 0, x 1, x 2, x 3, x 4, x 5, x 6, x 7, x 8, x 9, x 10, x 11, x 12, x 13, x 14, x 15, x 16, x 17, x 18, x 19, x 20, x 21, x 22, x 23, x 24, x 25, x 26, x 27, x 28, x 29, x 30, x 31, x 32, x 33, x 34, x 35, x 36, x 37, x 38, x 39, x 40, x 41, x 42, x 43, x 44, x 45, x 46, x 47, x 48, x 49, x 50, x 51, x 52, x 53, x 54, x 55, x 56, x 57, x 58, x 59, x 60, x 61, x 62, x 63, x 64, x 65, x 66, x 67, x 68, x 69, x 70, x 71, x 72, x 73, x 74, x 75, x 76, x 77, x 78, x 79, x 80, x 81, x 82, x 83, x 84, x 85, x 86, x 87, x 88, x 89, x 90, x 91, x 92, x 93, x 94, x 95, x 96, x 97] := frame_lit t 98 hsz x hx
  clear hx hsz hz e8 e9 e0 e1 e2 e3 e4 e5 e6 e7 e10 e11 e12 e13 e14 e20 e21 e22 e23 e24 e25 e26 e27 e28 e29 e30 e31 e32 e33 e34 e35 e36 e37 e38 e39 e40 e41 e42 e43 e44 e45 e46 e47 e48 e49 e50 e51 e52 e53 e54 e55 e56 e57 e58 e59 e60 e61 e62 e63 e64 e65 e66 e67 e68 e69 e70 e71 e72 e73 e74 e75 e76 e77 e78 e79 e80 e81 e82 e83 e84 e85 e86 e87 e88 e89 e90 e91 e92 e93 e94 e95 e96 e97
  subst ht'
  dsimp only
  rw [h8, h9, h0, h1, h2, h3, h4, h5, h6, h7, h10, h11, h12, h13, h14, h20, h21, h22, h23, h24, h25, h26, h27, h28, h29, h30, h31, h32, h33, h34, h35, h36, h37, h38, h39, h40, h41, h42, h43, h44, h45, h46, h47, h48, h49, h50, h51, h52, h53, h54, h55, h56, h57, h58, h59, h60, h61, h62, h63, h64, h65, h66, h67, h68, h69, h70, h71, h72, h73, h74, h75, h76, h77, h78, h79, h80, h81, h82, h83, h84, h85, h86, h87, h88, h89, h90, h91, h92, h93, h94, h95, h96, h97]
  clear h8 h9 h0 h1 h2 h3 h4 h5 h6 h7 h10 h11 h12 h13 h14 h20 h21 h22 h23 h24 h25 h26 h27 h28 h29 h30 h31 h32 h33 h34 h35 h36 h37 h38 h39 h40 h41 h42 h43 h44 h45 h46 h47 h48 h49 h50 h51 h52 h53 h54 h55 h56 h57 h58 h59 h60 h61 h62 h63 h64 h65 h66 h67 h68 h69 h70 h71 h72 h73 h74 h75 h76 h77 h78 h79 h80 h81 h82 h83 h84 h85 h86 h87 h88 h89 h90 h91 h92 h93 h94 h95 h96 h97
  have hb := from_drew hS
  replace hB := hB.trans (hb.mono hB.size)
  replace hD := hD.later hb
  replace hrd := hrd.later hb
  clear hS hb hns2 HT
  have qD := hD.at
  unfold confBox at qD
  have i0 : 0 ≤ x9 % 1099511627776 := by omega
  have i1 : x9 % 1099511627776 < 1099511627776 := by omega
  go_wp2_with fail
  refine (within8_any x9 1099511627776 _ (by omega) (by omega)).mono ?_
  rintro e wl ⟨rfl, rfl⟩
  generalize x9 % 1099511627776 = u at *
  have b2 : IntKind.i64.wrap (1 + u) = 1 + u := wrap_in _ (by omega) (by omega)
  have b3 : IntKind.i64.wrap (-(2 * d.Pi)) = -(2 * d.Pi) := wrap_in _ (by omega) (by omega)
  have b4 : IntKind.i64.wrap (0 - 2 * d.Pi) = -(2 * d.Pi) := by rw [Int.zero_sub]; exact b3
  have b5 : IntKind.i64.wrap (2 * d.Pi + (1 + u)) = 2 * d.Pi + (1 + u) := wrap_in _ (by omega) (by omega)
  have b6 : IntKind.i64.wrap (-(2 * d.Pi) - (1 + u)) = -(2 * d.Pi) - (1 + u) := wrap_in _ (by omega) (by omega)
  have s1 : guardL d 4 (2 * d.Pi) s = s := guard_yes _ _ _ _ (by unfold admitB windowI; simp; omega)
  have s2 : guardL d 4 (-(2 * d.Pi)) s = s := guard_yes _ _ _ _ (by unfold admitB windowI; simp; omega)
  have s3 : guardL d 4 (2 * d.Pi + (1 + u)) s = [] := guard_no _ _ _ _ (by unfold admitB windowI; simp; omega)
  have s4 : guardL d 4 (-(2 * d.Pi) - (1 + u)) s = [] := guard_no _ _ _ _ (by unfold admitB windowI; simp; omega)
  have s5 : guardL d 3 (2 * d.Pi + (1 + u)) s = s := guard_yes _ _ _ _ (by unfold admitB; simp)
  have s6 : guardL d 2 (-(2 * d.Pi) - (1 + u)) s = s := guard_yes _ _ _ _ (by unfold admitB; simp)
  have s7 : guardL d 0 (2 * d.Pi + (1 + u)) s = s := guard_yes _ _ _ _ (by unfold admitB; simp)
  have a1 : admitB d 4 9223372036854775807 = false := by unfold admitB windowI; simp; omega
  have a2 : admitB d 4 (-9223372036854775808) = false := by unfold admitB windowI; simp; omega
  have H1 := Lib.hid (fun W => gStream_any d da dc 4 (2 * d.Pi) s W hok (by omega))
  have H2 := Lib.hid (fun W => gStream_any d da dc 4 (-(2 * d.Pi)) s W hok (by omega))
  have H3 := Lib.hid (fun W => gStream_any d da dc 4 (2 * d.Pi + (1 + u)) s W hok (by omega))
  have H4 := Lib.hid (fun W => gStream_any d da dc 4 (-(2 * d.Pi) - (1 + u)) s W hok (by omega))
  have H5 := Lib.hid (fun W => gStream_any d da dc 3 (2 * d.Pi + (1 + u)) s W hok (by omega))
  have H6 := Lib.hid (fun W => gStream_any d da dc 2 (-(2 * d.Pi) - (1 + u)) s W hok (by omega))
  have H7 := Lib.hid (fun W => gStream_any d da dc 0 (2 * d.Pi + (1 + u)) s W hok (by omega))
  have H8 := Lib.hid (fun W => gAdmits_any d da dc 4 9223372036854775807 W hok)
  have H9 := Lib.hid (fun W => gAdmits_any d da dc 4 (-9223372036854775808) W hok)
  rw [s1] at H1
  rw [s2] at H2
  rw [s3] at H3
  rw [s4] at H4
  rw [s5] at H5
  rw [s6] at H6
  rw [s7] at H7
  rw [a1] at H8
  rw [a2] at H9
  clear s1 s2 s3 s4 s5 s6 s7 a1 a2
  have t1 : (s == s) = true := by simp
  go_wp2_with fail
  refine (H1.out _).mono ?_
  rintro e wq ⟨rfl, hb⟩
  (try clear qD)
  (try clear qG)
  replace hB := hB.trans (hb.mono hB.size)
  replace hD := hD.later hb
  replace hrd := hrd.later hb
  have qD := hD.at
  unfold confBox at qD
  clear hb
  go_wp2_with fail
  refine (H2.out _).mono ?_
  rintro e wq ⟨rfl, hb⟩
  (try clear qD)
  (try clear qG)
  replace hB := hB.trans (hb.mono hB.size)
  replace hD := hD.later hb
  replace hrd := hrd.later hb
  have qD := hD.at
  unfold confBox at qD
  clear hb
  go_wp2_with fail
  refine (H3.out _).mono ?_
  rintro e wq ⟨rfl, hb⟩
  (try clear qD)
  (try clear qG)
  replace hB := hB.trans (hb.mono hB.size)
  replace hD := hD.later hb
  replace hrd := hrd.later hb
  have qD := hD.at
  unfold confBox at qD
  clear hb
  go_wp2_with fail
  refine (H4.out _).mono ?_
  rintro e wq ⟨rfl, hb⟩
  (try clear qD)
  (try clear qG)
  replace hB := hB.trans (hb.mono hB.size)
  replace hD := hD.later hb
  replace hrd := hrd.later hb
  have qD := hD.at
  unfold confBox at qD
  clear hb
  go_wp2_with fail
  refine (H5.out _).mono ?_
  rintro e wq ⟨rfl, hb⟩
  (try clear qD)
  (try clear qG)
  replace hB := hB.trans (hb.mono hB.size)
  replace hD := hD.later hb
  replace hrd := hrd.later hb
  have qD := hD.at
  unfold confBox at qD
  clear hb
  go_wp2_with fail
  refine (H6.out _).mono ?_
  rintro e wq ⟨rfl, hb⟩
  (try clear qD)
  (try clear qG)
  replace hB := hB.trans (hb.mono hB.size)
  replace hD := hD.later hb
  replace hrd := hrd.later hb
  have qD := hD.at
  unfold confBox at qD
  clear hb
  go_wp2_with fail
  refine (H7.out _).mono ?_
  rintro e wq ⟨rfl, hb⟩
  (try clear qD)
  (try clear qG)
  replace hB := hB.trans (hb.mono hB.size)
  replace hD := hD.later hb
  replace hrd := hrd.later hb
  have qD := hD.at
  unfold confBox at qD
  clear hb
  go_wp2_with fail
  refine (H8.out _).mono ?_
  rintro e wq ⟨rfl, hb⟩
  (try clear qD)
  (try clear qG)
  replace hB := hB.trans (hb.mono hB.size)
  replace hD := hD.later hb
  replace hrd := hrd.later hb
  have qD := hD.at
  unfold confBox at qD
  clear hb
  go_wp2_with fail
  refine (H9.out _).mono ?_
  rintro e wq ⟨rfl, hb⟩
  (try clear qD)
  (try clear qG)
  replace hB := hB.trans (hb.mono hB.size)
  replace hD := hD.later hb
  replace hrd := hrd.later hb
  have qD := hD.at
  unfold confBox at qD
  clear hb
  go_wp2
  go_ret
  exact ⟨rfl, hB⟩

end Go.Proofs.Ytfpbijcgbknklaa

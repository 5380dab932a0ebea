/-
  Contracts of package spread, third part: what comes to a node; guarded; both inputs; what it passes on.
-/
import Derived.Test.YthhmedlefahccaaGreatDoorK12
import Derived.Test.YthhmedlefahccaaGreatDoorK10
namespace Go.Proofs.YthhmedlefahccaaGreatDoor
open Go.RowKit Plait
set_option maxRecDepth 100000
set_option linter.unusedVariables false
set_option linter.unusedSimpArgs false

/-- As the arguments may be. -/
structure Wv.Ok (y : Wv) (w : World) : Prop where
  c : y.c.Ok
  n : y.c.N = y.n
  n12 : y.n ≤ 12
  A : RowA w y.fa y.f.A
  lA : y.f.A.length ≤ 1000000
  t : ∀ a ∈ y.f.A, a.T.length ≤ 2000
  r0 : 0 ≤ y.r
  r1 : y.r ≤ 1000000
  s0 : 0 ≤ y.s
  s1 : y.s < slotsI y.c
  d : y.d = 1 ∨ y.d = -1
  st : Row w y.sa y.st
  stl : y.st.length = y.n
  dv : Row w y.va y.dv
  dvl : y.dv.length = y.n

/-- What comes to a node from so many steps back. -/
def openL (y : Wv) (G : (Nat → Sd) × (Nat → Bool)) (j fr : Nat) : List UInt8 := if G.2 fr then clean (emitL y.c y.f y.r y.s fr j (G.1 fr).O) else []

theorem openL_len (y : Wv) (w : World) (ok : y.Ok w) (G : (Nat → Sd) × (Nat → Bool)) (hG : ∀ i, (G.1 i).O.length ≤ 2000) (j fr : Nat) : (openL y G j fr).length ≤ 2000 := by
  unfold openL
  split
  · exact em_len _ _ _ _ _ _ _ ok.c ok.s0 ok.s1 (hG _) ok.t
  · simp

theorem WvM.drew1 {y : Wv} {w : World} {G : (Nat → Sd) × (Nat → Bool)} {W : World} (h : WvM y w G W) : WvM y w G W.drew := h.later (Below.refl _ _).drew

set_option maxHeartbeats 3200000 in
theorem wopen_any (y : Wv) (w : World) (ok : y.Ok w) (G : (Nat → Sd) × (Nat → Bool)) (W : World) (hM : WvM y w G W) (hG : ∀ i, (G.1 i).O.length ≤ 2000) (j : Nat) (hj : j < y.n) (k : Int) (hk : k = 1 ∨ k = 2) (fr : Nat) (hfr : ((j : Int) - k * y.d) % y.c.N = fr) :
    Calls Tryz.prog 99 #[.pointer (some ⟨y.bw, 0, none⟩), .int .i64 j, .int .i64 k] W fun e W' => e = .returned (.string ⟨(openL y G j fr).toArray⟩) ∧ Below W.heap.size W W' := by
  have n12 := ok.n12; have n6 := ok.c.n6; have HN := Lib.hid ok.n; have r0 := ok.r0; have r1 := ok.r1; have s0 := ok.s0; have s1 := ok.s1; have hd := ok.d
  have hfrn : fr < y.n := by have hn := HN.out; have := Int.emod_lt_of_pos ((j : Int) - k * y.d) (show 0 < y.c.N by omega); omega
  have hkd : -k * y.d = -(k * y.d) := by rw [Int.neg_mul]
  have hkb : -2 ≤ k * y.d ∧ k * y.d ≤ 2 := by rcases hk with rfl | rfl <;> rcases hd with q | q <;> rw [q] <;> omega
  have z1 : IntKind.i64.wrap (-k) = -k := wrap_in _ (by omega) (by omega)
  have z2 : IntKind.i64.wrap (-k * y.d) = -(k * y.d) := by rw [hkd]; exact wrap_in _ (by omega) (by omega)
  have z3 : wrap64 (-k * y.d) = -(k * y.d) := by rw [hkd]; exact IntWalk.wrap64_in _ ⟨by omega, by omega⟩
  have HA := Lib.hid (fun W => gAt_any y.c.N j (-(k * y.d)) W (by omega) (by have := HN.out; omega) ⟨by omega, by omega⟩ ⟨by omega, by omega⟩)
  rw [show ((j : Int) + -(k * y.d)) = (j : Int) - k * y.d by omega, hfr] at HA
  have HO := Lib.hid (show openL y G j fr = if G.2 fr then clean (emitL y.c y.f y.r y.s fr j (G.1 fr).O) else [] from rfl)
  have hW := hM.wv
  have hqm := Wv.box_at y G.2 fr (by omega)
  have HMM := Lib.hid hM
  have i3 : (0 : Int) ≤ (fr : Int) := by omega
  have i4 : (fr : Int) < 12 := by omega
  have i5 : (fr : Int) < (y.n : Int) := by omega
  clear hfr hkd hkb hM
  go_enter Tryz.func99, Tryz.ntmps99
  go_upto_region 1 with fail
  refine region_slots [some 8, some 9, some 10, some 11, some 12, some 13, some 14, some 15, some 16, some 17, some 18, some 19, some 20, some 21, some 7] [none, none, none, none, none, none, none, none, none, none, none, none, none, none, none] 57 15 rfl (by kernel_rfl) (by kernel_rfl) rfl rfl ?_
  apply step_fix
  · intro a W Zs hS hFm hz hd
    have h0 := hFm.old 0 rfl
    conv at h0 => rhs; whnf
    replace h0 := ev_get hFm.size h0
    refine .inl ⟨wanted_none rfl _, fun K hK => ?_⟩
    have HK := Lib.hid hK
    clear hd hFm hK
    go_simp
    exact HK.out _ _ rfl (Below.refl _ _)
  simp only [List.nil_append, List.cons_append]
  apply step_fix
  · intro a W Zs hS hFm hz hd
    have h8 := ev_get hFm.size (hd 0 8 rfl rfl)
    refine .inl ⟨wanted_none rfl _, fun K hK => ?_⟩
    have HK := Lib.hid hK
    clear hd hFm hK
    go_simp
    exact HK.out _ _ rfl (Below.refl _ _)
  simp only [List.nil_append, List.cons_append]
  apply step_fix
  · intro a W Zs hS hFm hz hd
    have h9 := ev_get hFm.size (hd 1 9 rfl rfl)
    refine .inl ⟨wanted_none rfl _, fun K hK => ?_⟩
    have HK := Lib.hid hK
    clear hd hFm hK
    go_simp
    exact HK.out _ _ rfl (Below.refl _ _)
  simp only [List.nil_append, List.cons_append]
  apply step_fix
  · intro a W Zs hS hFm hz hd
    have h10 := ev_get hFm.size (hd 2 10 rfl rfl)
    refine .inl ⟨wanted_none rfl _, fun K hK => ?_⟩
    have HK := Lib.hid hK
    clear hd hFm hK
    go_simp
    exact HK.out _ _ rfl (Below.refl _ _)
  simp only [List.nil_append, List.cons_append]
  apply step_fix
  · intro a W Zs hS hFm hz hd
    have h11 := ev_get hFm.size (hd 3 11 rfl rfl)
    have hq := (hW.drew1.later hS).at
    unfold Wv.box at hq
    refine .inl ⟨wanted_none rfl _, fun K hK => ?_⟩
    have HK := Lib.hid hK
    clear hd hFm hK
    go_simp
    exact HK.out _ _ rfl (Below.refl _ _)
  simp only [List.nil_append, List.cons_append]
  apply step_fix
  · intro a W Zs hS hFm hz hd
    have h1 := hFm.old 1 rfl
    conv at h1 => rhs; whnf
    replace h1 := ev_get hFm.size h1
    refine .inl ⟨wanted_none rfl _, fun K hK => ?_⟩
    have HK := Lib.hid hK
    clear hd hFm hK
    go_simp
    exact HK.out _ _ rfl (Below.refl _ _)
  simp only [List.nil_append, List.cons_append]
  apply step_fix
  · intro a W Zs hS hFm hz hd
    have h2 := hFm.old 2 rfl
    conv at h2 => rhs; whnf
    replace h2 := ev_get hFm.size h2
    refine .inl ⟨wanted_none rfl _, fun K hK => ?_⟩
    have HK := Lib.hid hK
    clear hd hFm hK
    go_simp
    exact HK.out _ _ rfl (Below.refl _ _)
  simp only [List.nil_append, List.cons_append]
  apply step_fix
  · intro a W Zs hS hFm hz hd
    have h14 := ev_get hFm.size (hd 6 14 rfl rfl)
    refine .inl ⟨wanted_none rfl _, fun K hK => ?_⟩
    have HK := Lib.hid hK
    clear hd hFm hK
    go_simp
    exact HK.out _ _ rfl (Below.refl _ _)
  simp only [List.nil_append, List.cons_append]
  apply step_fix
  · intro a W Zs hS hFm hz hd
    have h0 := hFm.old 0 rfl
    conv at h0 => rhs; whnf
    replace h0 := ev_get hFm.size h0
    refine .inl ⟨wanted_none rfl _, fun K hK => ?_⟩
    have HK := Lib.hid hK
    clear hd hFm hK
    go_simp
    exact HK.out _ _ rfl (Below.refl _ _)
  simp only [List.nil_append, List.cons_append]
  apply step_fix
  · intro a W Zs hS hFm hz hd
    have h16 := ev_get hFm.size (hd 8 16 rfl rfl)
    refine .inl ⟨wanted_none rfl _, fun K hK => ?_⟩
    have HK := Lib.hid hK
    clear hd hFm hK
    go_simp
    exact HK.out _ _ rfl (Below.refl _ _)
  simp only [List.nil_append, List.cons_append]
  apply step_fix
  · intro a W Zs hS hFm hz hd
    have h17 := ev_get hFm.size (hd 9 17 rfl rfl)
    refine .inl ⟨wanted_none rfl _, fun K hK => ?_⟩
    have HK := Lib.hid hK
    clear hd hFm hK
    go_simp
    exact HK.out _ _ rfl (Below.refl _ _)
  simp only [List.nil_append, List.cons_append]
  apply step_fix
  · intro a W Zs hS hFm hz hd
    have h18 := ev_get hFm.size (hd 10 18 rfl rfl)
    have hq := (hW.drew1.later hS).at
    unfold Wv.box at hq
    refine .inl ⟨wanted_none rfl _, fun K hK => ?_⟩
    have HK := Lib.hid hK
    clear hd hFm hK
    go_simp
    exact HK.out _ _ rfl (Below.refl _ _)
  simp only [List.nil_append, List.cons_append]
  apply step_fix
  · intro a W Zs hS hFm hz hd
    have h15 := ev_get hFm.size (hd 7 15 rfl rfl)
    have h19 := ev_get hFm.size (hd 11 19 rfl rfl)
    refine .inl ⟨wanted_none rfl _, fun K hK => ?_⟩
    have HK := Lib.hid hK
    clear hd hFm hK
    go_simp
    exact HK.out _ _ rfl (Below.refl _ _)
  simp only [List.nil_append, List.cons_append]
  apply step_fix
  · intro a W Zs hS hFm hz hd
    have h12 := ev_get hFm.size (hd 4 12 rfl rfl)
    have h13 := ev_get hFm.size (hd 5 13 rfl rfl)
    have h20 := ev_get hFm.size (hd 12 20 rfl rfl)
    refine .inl ⟨wanted_none rfl _, fun K hK => ?_⟩
    have HK := Lib.hid hK
    clear hd hFm hK
    go_simp
    refine (HA.out _).mono ?_
    rintro e W' ⟨rfl, hb⟩
    exact HK.out _ _ rfl hb
  simp only [List.nil_append, List.cons_append]
  apply step_fix
  · intro a W Zs hS hFm hz hd
    have h21 := ev_get hFm.size (hd 13 21 rfl rfl)
    refine .inl ⟨wanted_none rfl _, fun K hK => ?_⟩
    have HK := Lib.hid hK
    clear hd hFm hK
    go_simp
    exact HK.out _ _ rfl (Below.refl _ _)
  simp only [List.nil_append, List.cons_append]
  intro a w1 Zs hS hFm hz hd
  have e7 := hd 14 7 (by decide) rfl
  have e0 := hFm.old 0 rfl
  conv at e0 => rhs; whnf
  have e1 := hFm.old 1 rfl
  conv at e1 => rhs; whnf
  have e2 := hFm.old 2 rfl
  conv at e2 => rhs; whnf
  have e3 := hFm.old 3 rfl
  conv at e3 => rhs; whnf
  have e4 := hFm.old 4 rfl
  conv at e4 => rhs; whnf
  have e5 := hFm.old 5 rfl
  conv at e5 => rhs; whnf
  have e6 := hFm.old 6 rfl
  conv at e6 => rhs; whnf
  have e22 := hFm.old 22 rfl
  conv at e22 => rhs; whnf
  have e23 := hFm.old 23 rfl
  conv at e23 => rhs; whnf
  have e24 := hFm.old 24 rfl
  conv at e24 => rhs; whnf
  have e25 := hFm.old 25 rfl
  conv at e25 => rhs; whnf
  have e26 := hFm.old 26 rfl
  conv at e26 => rhs; whnf
  have e27 := hFm.old 27 rfl
  conv at e27 => rhs; whnf
  have e28 := hFm.old 28 rfl
  conv at e28 => rhs; whnf
  have e29 := hFm.old 29 rfl
  conv at e29 => rhs; whnf
  have e30 := hFm.old 30 rfl
  conv at e30 => rhs; whnf
  have e31 := hFm.old 31 rfl
  conv at e31 => rhs; whnf
  have e32 := hFm.old 32 rfl
  conv at e32 => rhs; whnf
  have e33 := hFm.old 33 rfl
  conv at e33 => rhs; whnf
  have e34 := hFm.old 34 rfl
  conv at e34 => rhs; whnf
  have e35 := hFm.old 35 rfl
  conv at e35 => rhs; whnf
  have e36 := hFm.old 36 rfl
  conv at e36 => rhs; whnf
  have e37 := hFm.old 37 rfl
  conv at e37 => rhs; whnf
  have e38 := hFm.old 38 rfl
  conv at e38 => rhs; whnf
  have e39 := hFm.old 39 rfl
  conv at e39 => rhs; whnf
  have e40 := hFm.old 40 rfl
  conv at e40 => rhs; whnf
  have e41 := hFm.old 41 rfl
  conv at e41 => rhs; whnf
  have e42 := hFm.old 42 rfl
  conv at e42 => rhs; whnf
  have e43 := hFm.old 43 rfl
  conv at e43 => rhs; whnf
  have e44 := hFm.old 44 rfl
  conv at e44 => rhs; whnf
  have e45 := hFm.old 45 rfl
  conv at e45 => rhs; whnf
  have e46 := hFm.old 46 rfl
  conv at e46 => rhs; whnf
  have e47 := hFm.old 47 rfl
  conv at e47 => rhs; whnf
  have e48 := hFm.old 48 rfl
  conv at e48 => rhs; whnf
  have e49 := hFm.old 49 rfl
  conv at e49 => rhs; whnf
  have e50 := hFm.old 50 rfl
  conv at e50 => rhs; whnf
  have e51 := hFm.old 51 rfl
  conv at e51 => rhs; whnf
  have e52 := hFm.old 52 rfl
  conv at e52 => rhs; whnf
  have e53 := hFm.old 53 rfl
  conv at e53 => rhs; whnf
  have e54 := hFm.old 54 rfl
  conv at e54 => rhs; whnf
  have e55 := hFm.old 55 rfl
  conv at e55 => rhs; whnf
  have e56 := hFm.old 56 rfl
  conv at e56 => rhs; whnf
  have hsz := hFm.size
  have hdf := hFm.defers
  clear hd hFm
  obtain ⟨t, df⟩ := a
  simp only at hsz hdf
  subst hdf
  obtain ⟨x, hx⟩ : ∃ x : Nat → Value, ∀ i, t.getD i undef = x i := ⟨fun i => t.getD i undef, fun _ => rfl⟩
  have h7 := (hx 7).symm.trans e7
  have h0 := (hx 0).symm.trans e0
  have h1 := (hx 1).symm.trans e1
  have h2 := (hx 2).symm.trans e2
  have h3 := (hx 3).symm.trans e3
  have h4 := (hx 4).symm.trans e4
  have h5 := (hx 5).symm.trans e5
  have h6 := (hx 6).symm.trans e6
  have h22 := (hx 22).symm.trans e22
  have h23 := (hx 23).symm.trans e23
  have h24 := (hx 24).symm.trans e24
  have h25 := (hx 25).symm.trans e25
  have h26 := (hx 26).symm.trans e26
  have h27 := (hx 27).symm.trans e27
  have h28 := (hx 28).symm.trans e28
  have h29 := (hx 29).symm.trans e29
  have h30 := (hx 30).symm.trans e30
  have h31 := (hx 31).symm.trans e31
  have h32 := (hx 32).symm.trans e32
  have h33 := (hx 33).symm.trans e33
  have h34 := (hx 34).symm.trans e34
  have h35 := (hx 35).symm.trans e35
  have h36 := (hx 36).symm.trans e36
  have h37 := (hx 37).symm.trans e37
  have h38 := (hx 38).symm.trans e38
  have h39 := (hx 39).symm.trans e39
  have h40 := (hx 40).symm.trans e40
  have h41 := (hx 41).symm.trans e41
  have h42 := (hx 42).symm.trans e42
  have h43 := (hx 43).symm.trans e43
  have h44 := (hx 44).symm.trans e44
  have h45 := (hx 45).symm.trans e45
  have h46 := (hx 46).symm.trans e46
  have h47 := (hx 47).symm.trans e47
  have h48 := (hx 48).symm.trans e48
  have h49 := (hx 49).symm.trans e49
  have h50 := (hx 50).symm.trans e50
  have h51 := (hx 51).symm.trans e51
  have h52 := (hx 52).symm.trans e52
  have h53 := (hx 53).symm.trans e53
  have h54 := (hx 54).symm.trans e54
  have h55 := (hx 55).symm.trans e55
  have h56 := (hx 56).symm.trans e56
  have ht' : t = #[x 0, x 1, x 2, x 3, x 4, x 5, x 6, x 7, x 8, x 9, x 10, x 11, x 12, x 13, x 14, x 15, x 16, x 17, x 18, x 19, x 20, x 21, x 22, x 23, x 24, x 25, x 26, x 27, x 28, x 29, x 30, x 31, x 32, x 33, x 34, x 35, x 36, x 37, x 38, x 39, x 40, x 41, x 42, x 43, x 44, x 45, x 46, x 47, x 48, x 49, x 50, x 51, x 52, x 53, x 54, x 55, x 56] := frame_lit t 57 hsz x hx
  clear hx hsz hz e7 e0 e1 e2 e3 e4 e5 e6 e22 e23 e24 e25 e26 e27 e28 e29 e30 e31 e32 e33 e34 e35 e36 e37 e38 e39 e40 e41 e42 e43 e44 e45 e46 e47 e48 e49 e50 e51 e52 e53 e54 e55 e56
  subst ht'
  (try dsimp only)
  rw [h7, h0, h1, h2, h3, h4, h5, h6, h22, h23, h24, h25, h26, h27, h28, h29, h30, h31, h32, h33, h34, h35, h36, h37, h38, h39, h40, h41, h42, h43, h44, h45, h46, h47, h48, h49, h50, h51, h52, h53, h54, h55, h56]
  clear h7 h0 h1 h2 h3 h4 h5 h6 h22 h23 h24 h25 h26 h27 h28 h29 h30 h31 h32 h33 h34 h35 h36 h37 h38 h39 h40 h41 h42 h43 h44 h45 h46 h47 h48 h49 h50 h51 h52 h53 h54 h55 h56
  have hb := from_drew hS
  have hM1 := HMM.out.later hb
  clear hS HMM hW HA z1 z2 z3
  have hq := hM1.wv.at
  have hqf : w1.cell? ⟨y.bw, 18 + fr, none⟩ = some (.bool (G.2 fr)) := (hq _).trans hqm
  clear hq
  cases hkn : G.2 fr
  · rw [hkn] at hqf
    have HE := Lib.hid (show openL y G j fr = [] by rw [HO.out, hkn]; rfl)
    go_upto_region 3 with fail
    go_wp2
    go_ret
    exact ⟨by rw [HE.out]; rfl, hb⟩
  · rw [hkn] at hqf
    have HE := Lib.hid (show openL y G j fr = clean (emitL y.c y.f y.r y.s fr j (G.1 fr).O) by rw [HO.out, hkn]; rfl)
    clear HO hkn
    go_upto_region 4 with fail
    clear hqf
    have hW := hM1.wv
    obtain ⟨M, hO, hMs⟩ := hM1.o
    obtain ⟨-, -, c2, -⟩ := hMs.2 fr hfrn
    have hA := ok.A.later hM1.hB
    have e2l := emitL_len y.c y.f y.r y.s fr j (G.1 fr).O ok.c s0 s1 (hG _) ok.t
    have ht2 : ∀ a ∈ y.f.A, a.T.length ≤ 1048576 := fun a ha => Nat.le_trans (ok.t a ha) (by omega)
    have HEM := Lib.hid (fun W (h : RowA W y.fa y.f.A) => lEmit_any y.c y.ca y.cc y.f y.fa y.fac y.fd y.fdc y.r y.s fr j (G.1 fr).O W ok.c h ok.lA ht2 r0 r1 s0 s1 ⟨by omega, by omega⟩ (by omega) (by omega) (by have := hG fr; omega))
    have HCL := Lib.hid (fun W => clean_any (emitL y.c y.f y.r y.s fr j (G.1 fr).O) W (by omega))
    clear e2l ht2 hM1 hMs
    refine region_slots [some 29, some 30, some 31, some 32, some 33, some 34, some 35, some 36, some 37, some 38, some 39, some 40, some 41, some 42, some 43, some 44, some 45, some 46, some 47, some 48, some 49, some 50, some 51, some 52, some 53, some 54, some 55, some 56, some 6] [none, none, none, none, none, none, none, none, none, none, none, none, none, none, none, none, none, none, none, none, none, none, none, none, none, none, none, none, none] 57 29 rfl (by kernel_rfl) (by kernel_rfl) rfl rfl ?_
    apply step_fix
    · intro a W Zs hS hFm hz hd
      have h0 := hFm.old 0 rfl
      conv at h0 => rhs; whnf
      replace h0 := ev_get hFm.size h0
      refine .inl ⟨wanted_none rfl _, fun K hK => ?_⟩
      have HK := Lib.hid hK
      clear hd hFm hK
      go_simp
      exact HK.out _ _ rfl (Below.refl _ _)
    simp only [List.nil_append, List.cons_append]
    apply step_fix
    · intro a W Zs hS hFm hz hd
      have h29 := ev_get hFm.size (hd 0 29 rfl rfl)
      refine .inl ⟨wanted_none rfl _, fun K hK => ?_⟩
      have HK := Lib.hid hK
      clear hd hFm hK
      go_simp
      exact HK.out _ _ rfl (Below.refl _ _)
    simp only [List.nil_append, List.cons_append]
    apply step_fix
    · intro a W Zs hS hFm hz hd
      have h30 := ev_get hFm.size (hd 1 30 rfl rfl)
      refine .inl ⟨wanted_none rfl _, fun K hK => ?_⟩
      have HK := Lib.hid hK
      clear hd hFm hK
      go_simp
      exact HK.out _ _ rfl (Below.refl _ _)
    simp only [List.nil_append, List.cons_append]
    apply step_fix
    · intro a W Zs hS hFm hz hd
      have h31 := ev_get hFm.size (hd 2 31 rfl rfl)
      have hq := (hW.drew1.later hS).at
      unfold Wv.box at hq
      refine .inl ⟨wanted_none rfl _, fun K hK => ?_⟩
      have HK := Lib.hid hK
      clear hd hFm hK
      go_simp
      exact HK.out _ _ rfl (Below.refl _ _)
    simp only [List.nil_append, List.cons_append]
    apply step_fix
    · intro a W Zs hS hFm hz hd
      have h0 := hFm.old 0 rfl
      conv at h0 => rhs; whnf
      replace h0 := ev_get hFm.size h0
      refine .inl ⟨wanted_none rfl _, fun K hK => ?_⟩
      have HK := Lib.hid hK
      clear hd hFm hK
      go_simp
      exact HK.out _ _ rfl (Below.refl _ _)
    simp only [List.nil_append, List.cons_append]
    apply step_fix
    · intro a W Zs hS hFm hz hd
      have h33 := ev_get hFm.size (hd 4 33 rfl rfl)
      refine .inl ⟨wanted_none rfl _, fun K hK => ?_⟩
      have HK := Lib.hid hK
      clear hd hFm hK
      go_simp
      exact HK.out _ _ rfl (Below.refl _ _)
    simp only [List.nil_append, List.cons_append]
    apply step_fix
    · intro a W Zs hS hFm hz hd
      have h34 := ev_get hFm.size (hd 5 34 rfl rfl)
      refine .inl ⟨wanted_none rfl _, fun K hK => ?_⟩
      have HK := Lib.hid hK
      clear hd hFm hK
      go_simp
      exact HK.out _ _ rfl (Below.refl _ _)
    simp only [List.nil_append, List.cons_append]
    apply step_fix
    · intro a W Zs hS hFm hz hd
      have h35 := ev_get hFm.size (hd 6 35 rfl rfl)
      have hq := (hW.drew1.later hS).at
      unfold Wv.box at hq
      refine .inl ⟨wanted_none rfl _, fun K hK => ?_⟩
      have HK := Lib.hid hK
      clear hd hFm hK
      go_simp
      exact HK.out _ _ rfl (Below.refl _ _)
    simp only [List.nil_append, List.cons_append]
    apply step_fix
    · intro a W Zs hS hFm hz hd
      have h0 := hFm.old 0 rfl
      conv at h0 => rhs; whnf
      replace h0 := ev_get hFm.size h0
      refine .inl ⟨wanted_none rfl _, fun K hK => ?_⟩
      have HK := Lib.hid hK
      clear hd hFm hK
      go_simp
      exact HK.out _ _ rfl (Below.refl _ _)
    simp only [List.nil_append, List.cons_append]
    apply step_fix
    · intro a W Zs hS hFm hz hd
      have h37 := ev_get hFm.size (hd 8 37 rfl rfl)
      refine .inl ⟨wanted_none rfl _, fun K hK => ?_⟩
      have HK := Lib.hid hK
      clear hd hFm hK
      go_simp
      exact HK.out _ _ rfl (Below.refl _ _)
    simp only [List.nil_append, List.cons_append]
    apply step_fix
    · intro a W Zs hS hFm hz hd
      have h38 := ev_get hFm.size (hd 9 38 rfl rfl)
      refine .inl ⟨wanted_none rfl _, fun K hK => ?_⟩
      have HK := Lib.hid hK
      clear hd hFm hK
      go_simp
      exact HK.out _ _ rfl (Below.refl _ _)
    simp only [List.nil_append, List.cons_append]
    apply step_fix
    · intro a W Zs hS hFm hz hd
      have h39 := ev_get hFm.size (hd 10 39 rfl rfl)
      have hq := (hW.drew1.later hS).at
      unfold Wv.box at hq
      refine .inl ⟨wanted_none rfl _, fun K hK => ?_⟩
      have HK := Lib.hid hK
      clear hd hFm hK
      go_simp
      exact HK.out _ _ rfl (Below.refl _ _)
    simp only [List.nil_append, List.cons_append]
    apply step_fix
    · intro a W Zs hS hFm hz hd
      have h0 := hFm.old 0 rfl
      conv at h0 => rhs; whnf
      replace h0 := ev_get hFm.size h0
      refine .inl ⟨wanted_none rfl _, fun K hK => ?_⟩
      have HK := Lib.hid hK
      clear hd hFm hK
      go_simp
      exact HK.out _ _ rfl (Below.refl _ _)
    simp only [List.nil_append, List.cons_append]
    apply step_fix
    · intro a W Zs hS hFm hz hd
      have h41 := ev_get hFm.size (hd 12 41 rfl rfl)
      refine .inl ⟨wanted_none rfl _, fun K hK => ?_⟩
      have HK := Lib.hid hK
      clear hd hFm hK
      go_simp
      exact HK.out _ _ rfl (Below.refl _ _)
    simp only [List.nil_append, List.cons_append]
    apply step_fix
    · intro a W Zs hS hFm hz hd
      have h42 := ev_get hFm.size (hd 13 42 rfl rfl)
      refine .inl ⟨wanted_none rfl _, fun K hK => ?_⟩
      have HK := Lib.hid hK
      clear hd hFm hK
      go_simp
      exact HK.out _ _ rfl (Below.refl _ _)
    simp only [List.nil_append, List.cons_append]
    apply step_fix
    · intro a W Zs hS hFm hz hd
      have h43 := ev_get hFm.size (hd 14 43 rfl rfl)
      have hq := (hW.drew1.later hS).at
      unfold Wv.box at hq
      refine .inl ⟨wanted_none rfl _, fun K hK => ?_⟩
      have HK := Lib.hid hK
      clear hd hFm hK
      go_simp
      exact HK.out _ _ rfl (Below.refl _ _)
    simp only [List.nil_append, List.cons_append]
    apply step_fix
    · intro a W Zs hS hFm hz hd
      have h7 := hFm.old 7 rfl
      conv at h7 => rhs; whnf
      replace h7 := ev_get hFm.size h7
      refine .inl ⟨wanted_none rfl _, fun K hK => ?_⟩
      have HK := Lib.hid hK
      clear hd hFm hK
      go_simp
      exact HK.out _ _ rfl (Below.refl _ _)
    simp only [List.nil_append, List.cons_append]
    apply step_fix
    · intro a W Zs hS hFm hz hd
      have h1 := hFm.old 1 rfl
      conv at h1 => rhs; whnf
      replace h1 := ev_get hFm.size h1
      refine .inl ⟨wanted_none rfl _, fun K hK => ?_⟩
      have HK := Lib.hid hK
      clear hd hFm hK
      go_simp
      exact HK.out _ _ rfl (Below.refl _ _)
    simp only [List.nil_append, List.cons_append]
    apply step_fix
    · intro a W Zs hS hFm hz hd
      have h0 := hFm.old 0 rfl
      conv at h0 => rhs; whnf
      replace h0 := ev_get hFm.size h0
      refine .inl ⟨wanted_none rfl _, fun K hK => ?_⟩
      have HK := Lib.hid hK
      clear hd hFm hK
      go_simp
      exact HK.out _ _ rfl (Below.refl _ _)
    simp only [List.nil_append, List.cons_append]
    apply step_fix
    · intro a W Zs hS hFm hz hd
      have h47 := ev_get hFm.size (hd 18 47 rfl rfl)
      refine .inl ⟨wanted_none rfl _, fun K hK => ?_⟩
      have HK := Lib.hid hK
      clear hd hFm hK
      go_simp
      exact HK.out _ _ rfl (Below.refl _ _)
    simp only [List.nil_append, List.cons_append]
    apply step_fix
    · intro a W Zs hS hFm hz hd
      have h48 := ev_get hFm.size (hd 19 48 rfl rfl)
      refine .inl ⟨wanted_none rfl _, fun K hK => ?_⟩
      have HK := Lib.hid hK
      clear hd hFm hK
      go_simp
      exact HK.out _ _ rfl (Below.refl _ _)
    simp only [List.nil_append, List.cons_append]
    apply step_fix
    · intro a W Zs hS hFm hz hd
      have h49 := ev_get hFm.size (hd 20 49 rfl rfl)
      have hq := (hW.drew1.later hS).at
      unfold Wv.box at hq
      refine .inl ⟨wanted_none rfl _, fun K hK => ?_⟩
      have HK := Lib.hid hK
      clear hd hFm hK
      go_simp
      exact HK.out _ _ rfl (Below.refl _ _)
    simp only [List.nil_append, List.cons_append]
    apply step_fix
    · intro a W Zs hS hFm hz hd
      have h7 := hFm.old 7 rfl
      conv at h7 => rhs; whnf
      replace h7 := ev_get hFm.size h7
      refine .inl ⟨wanted_none rfl _, fun K hK => ?_⟩
      have HK := Lib.hid hK
      clear hd hFm hK
      go_simp
      exact HK.out _ _ rfl (Below.refl _ _)
    simp only [List.nil_append, List.cons_append]
    apply step_fix
    · intro a W Zs hS hFm hz hd
      have h50 := ev_get hFm.size (hd 21 50 rfl rfl)
      have h51 := ev_get hFm.size (hd 22 51 rfl rfl)
      refine .inl ⟨wanted_none rfl _, fun K hK => ?_⟩
      have HK := Lib.hid hK
      clear hd hFm hK
      go_simp
      exact HK.out _ _ rfl (Below.refl _ _)
    simp only [List.nil_append, List.cons_append]
    apply step_fix
    · intro a W Zs hS hFm hz hd
      have h52 := ev_get hFm.size (hd 23 52 rfl rfl)
      refine .inl ⟨wanted_none rfl _, fun K hK => ?_⟩
      have HK := Lib.hid hK
      clear hd hFm hK
      go_simp
      exact HK.out _ _ rfl (Below.refl _ _)
    simp only [List.nil_append, List.cons_append]
    apply step_fix
    · intro a W Zs hS hFm hz hd
      have h53 := ev_get hFm.size (hd 24 53 rfl rfl)
      have hq := (hO.drew1.later hS).at
      refine .inl ⟨wanted_none rfl _, fun K hK => ?_⟩
      have HK := Lib.hid hK
      clear hd hFm hK
      go_simp
      exact HK.out _ _ rfl (Below.refl _ _)
    simp only [List.nil_append, List.cons_append]
    apply step_fix
    · intro a W Zs hS hFm hz hd
      have h32 := ev_get hFm.size (hd 3 32 rfl rfl)
      have h36 := ev_get hFm.size (hd 7 36 rfl rfl)
      have h40 := ev_get hFm.size (hd 11 40 rfl rfl)
      have h44 := ev_get hFm.size (hd 15 44 rfl rfl)
      have h45 := ev_get hFm.size (hd 16 45 rfl rfl)
      have h46 := ev_get hFm.size (hd 17 46 rfl rfl)
      have h54 := ev_get hFm.size (hd 25 54 rfl rfl)
      refine .inl ⟨wanted_none rfl _, fun K hK => ?_⟩
      have HK := Lib.hid hK
      clear hd hFm hK
      go_simp
      refine (HEM.out _ (hA.drew1.later hS)).mono ?_
      rintro e W' ⟨rfl, hb⟩
      exact HK.out _ _ rfl hb
    simp only [List.nil_append, List.cons_append]
    apply step_fix
    · intro a W Zs hS hFm hz hd
      have h55 := ev_get hFm.size (hd 26 55 rfl rfl)
      refine .inl ⟨wanted_none rfl _, fun K hK => ?_⟩
      have HK := Lib.hid hK
      clear hd hFm hK
      go_simp
      refine (HCL.out _).mono ?_
      rintro e W' ⟨rfl, hb⟩
      exact HK.out _ _ rfl hb
    simp only [List.nil_append, List.cons_append]
    apply step_fix
    · intro a W Zs hS hFm hz hd
      have h56 := ev_get hFm.size (hd 27 56 rfl rfl)
      refine .inl ⟨wanted_none rfl _, fun K hK => ?_⟩
      have HK := Lib.hid hK
      clear hd hFm hK
      go_simp
      exact HK.out _ _ rfl (Below.refl _ _)
    simp only [List.nil_append, List.cons_append]
    intro a w2 Zs hS hFm hz hd
    have e6 := hd 28 6 (by decide) rfl
    have e0 := hFm.old 0 rfl
    conv at e0 => rhs; whnf
    have e1 := hFm.old 1 rfl
    conv at e1 => rhs; whnf
    have e2 := hFm.old 2 rfl
    conv at e2 => rhs; whnf
    have e3 := hFm.old 3 rfl
    conv at e3 => rhs; whnf
    have e4 := hFm.old 4 rfl
    conv at e4 => rhs; whnf
    have e5 := hFm.old 5 rfl
    conv at e5 => rhs; whnf
    have e7 := hFm.old 7 rfl
    conv at e7 => rhs; whnf
    have e8 := hFm.old 8 rfl
    conv at e8 => rhs; whnf
    have e9 := hFm.old 9 rfl
    conv at e9 => rhs; whnf
    have e10 := hFm.old 10 rfl
    conv at e10 => rhs; whnf
    have e11 := hFm.old 11 rfl
    conv at e11 => rhs; whnf
    have e12 := hFm.old 12 rfl
    conv at e12 => rhs; whnf
    have e13 := hFm.old 13 rfl
    conv at e13 => rhs; whnf
    have e14 := hFm.old 14 rfl
    conv at e14 => rhs; whnf
    have e15 := hFm.old 15 rfl
    conv at e15 => rhs; whnf
    have e16 := hFm.old 16 rfl
    conv at e16 => rhs; whnf
    have e17 := hFm.old 17 rfl
    conv at e17 => rhs; whnf
    have e18 := hFm.old 18 rfl
    conv at e18 => rhs; whnf
    have e19 := hFm.old 19 rfl
    conv at e19 => rhs; whnf
    have e20 := hFm.old 20 rfl
    conv at e20 => rhs; whnf
    have e21 := hFm.old 21 rfl
    conv at e21 => rhs; whnf
    have e22 := hFm.old 22 rfl
    conv at e22 => rhs; whnf
    have e23 := hFm.old 23 rfl
    conv at e23 => rhs; whnf
    have e24 := hFm.old 24 rfl
    conv at e24 => rhs; whnf
    have e25 := hFm.old 25 rfl
    conv at e25 => rhs; whnf
    have e26 := hFm.old 26 rfl
    conv at e26 => rhs; whnf
    have e27 := hFm.old 27 rfl
    conv at e27 => rhs; whnf
    have e28 := hFm.old 28 rfl
    conv at e28 => rhs; whnf
    have hsz := hFm.size
    have hdf := hFm.defers
    clear hd hFm
    obtain ⟨t, df⟩ := a
    simp only at hsz hdf
    subst hdf
    obtain ⟨x, hx⟩ : ∃ x : Nat → Value, ∀ i, t.getD i undef = x i := ⟨fun i => t.getD i undef, fun _ => rfl⟩
    have h6 := (hx 6).symm.trans e6
    have h0 := (hx 0).symm.trans e0
    have h1 := (hx 1).symm.trans e1
    have h2 := (hx 2).symm.trans e2
    have h3 := (hx 3).symm.trans e3
    have h4 := (hx 4).symm.trans e4
    have h5 := (hx 5).symm.trans e5
    have h7 := (hx 7).symm.trans e7
    have h8 := (hx 8).symm.trans e8
    have h9 := (hx 9).symm.trans e9
    have h10 := (hx 10).symm.trans e10
    have h11 := (hx 11).symm.trans e11
    have h12 := (hx 12).symm.trans e12
    have h13 := (hx 13).symm.trans e13
    have h14 := (hx 14).symm.trans e14
    have h15 := (hx 15).symm.trans e15
    have h16 := (hx 16).symm.trans e16
    have h17 := (hx 17).symm.trans e17
    have h18 := (hx 18).symm.trans e18
    have h19 := (hx 19).symm.trans e19
    have h20 := (hx 20).symm.trans e20
    have h21 := (hx 21).symm.trans e21
    have h22 := (hx 22).symm.trans e22
    have h23 := (hx 23).symm.trans e23
    have h24 := (hx 24).symm.trans e24
    have h25 := (hx 25).symm.trans e25
    have h26 := (hx 26).symm.trans e26
    have h27 := (hx 27).symm.trans e27
    have h28 := (hx 28).symm.trans e28
    have ht' : t = #[x 0, x 1, x 2, x 3, x 4, x 5, x 6, x 7, x 8, x 9, x 10, x 11, x 12, x 13, x 14, x 15, x 16, x 17, x 18, x 19, x 20, x 21, x 22, x 23, x 24, x 25, x 26, x 27, x 28, x 29, x 30, x 31, x 32, x 33, x 34, x 35, x 36, x 37, x 38, x 39, x 40, x 41, x 42, x 43, x 44, x 45, x 46, x 47, x 48, x 49, x 50, x 51, x 52, x 53, x 54, x 55, x 56] := frame_lit t 57 hsz x hx
    clear hx hsz hz e6 e0 e1 e2 e3 e4 e5 e7 e8 e9 e10 e11 e12 e13 e14 e15 e16 e17 e18 e19 e20 e21 e22 e23 e24 e25 e26 e27 e28
    subst ht'
    (try dsimp only)
    rw [h6, h0, h1, h2, h3, h4, h5, h7, h8, h9, h10, h11, h12, h13, h14, h15, h16, h17, h18, h19, h20, h21, h22, h23, h24, h25, h26, h27, h28]
    clear h6 h0 h1 h2 h3 h4 h5 h7 h8 h9 h10 h11 h12 h13 h14 h15 h16 h17 h18 h19 h20 h21 h22 h23 h24 h25 h26 h27 h28
    have hb2 := from_drew hS
    go_wp2
    go_ret
    exact ⟨by rw [HE.out]; rfl, hb.trans (hb2.mono hb.size)⟩

end Go.Proofs.YthhmedlefahccaaGreatDoor
/-
  Contracts of package spread, fourth part: guarded; both inputs; what a node passes on.
-/
namespace Go.Proofs.YthhmedlefahccaaGreatDoor
open Go.RowKit Plait
set_option maxRecDepth 100000
set_option linter.unusedVariables false
set_option linter.unusedSimpArgs false

set_option maxHeartbeats 3200000 in
theorem wguarded_any (y : Wv) (w : World) (ok : y.Ok w) (G : (Nat → Sd) × (Nat → Bool)) (W : World) (hM : WvM y w G W) (hG : ∀ i, (G.1 i).O.length ≤ 2000) (j : Nat) (hj : j < y.n) (fr : Nat) (hfr : ((j : Int) - y.d) % y.c.N = fr) :
    Calls Tryz.prog 98 #[.pointer (some ⟨y.bw, 0, none⟩), .int .i64 j, .int .i64 1] W fun e W' => e = .returned (.string ⟨(guardL y.c (y.st.getD j 0) (y.dv.getD j 0) (openL y G j fr)).toArray⟩) ∧ Below W.heap.size W W' := by
  have hl := openL_len y w ok G hG j fr
  have HOP := Lib.hid (fun W h => wopen_any y w ok G W h hG j hj 1 (.inl rfl) fr (by rw [Int.one_mul]; exact hfr))
  have HS := Lib.hid (fun W (h : Row W y.sa y.st) => watI_any y.sa y.st y.sc j W h (by rw [ok.stl]; exact hj))
  have HV := Lib.hid (fun W (h : Row W y.va y.dv) => watI_any y.va y.dv y.vc j W h (by rw [ok.dvl]; exact hj))
  have HGS := Lib.hid (fun W => gStream_any y.c y.ca y.cc (y.st.getD j 0) (y.dv.getD j 0) (openL y G j fr) W ok.c (by omega))
  have hst := ok.st.later hM.hB
  have hdv := ok.dv.later hM.hB
  have hW := hM.wv
  clear hfr hl
  generalize guardL y.c (y.st.getD j 0) (y.dv.getD j 0) (openL y G j fr) = R at *
  generalize openL y G j fr = T at *
  go_enter Tryz.func98, Tryz.ntmps98
  go_upto_region 1 with fail
  refine region_slots [some 7, some 8, some 9, some 10, some 11, some 12, some 13, some 14, some 15, some 16, some 17, some 18, some 19, some 20, some 21, some 22, some 23, some 24, some 25, some 26, some 27, some 6] [none, none, none, none, none, none, none, none, none, none, none, none, none, none, none, none, none, none, none, none, none, none] 28 22 rfl (by kernel_rfl) (by kernel_rfl) rfl rfl ?_
  apply step_fix
  · intro a W Zs hS hFm hz hd
    have h0 := hFm.old 0 rfl
    conv at h0 => rhs; whnf
    replace h0 := ev_get hFm.size h0
    refine .inl ⟨wanted_none rfl _, fun K hK => ?_⟩
    have HK := Lib.hid hK
    clear hd hFm hK
    go_simp
    exact HK.out _ _ rfl (Below.refl _ _)
  simp only [List.nil_append, List.cons_append]
  apply step_fix
  · intro a W Zs hS hFm hz hd
    have h7 := ev_get hFm.size (hd 0 7 rfl rfl)
    refine .inl ⟨wanted_none rfl _, fun K hK => ?_⟩
    have HK := Lib.hid hK
    clear hd hFm hK
    go_simp
    exact HK.out _ _ rfl (Below.refl _ _)
  simp only [List.nil_append, List.cons_append]
  apply step_fix
  · intro a W Zs hS hFm hz hd
    have h8 := ev_get hFm.size (hd 1 8 rfl rfl)
    refine .inl ⟨wanted_none rfl _, fun K hK => ?_⟩
    have HK := Lib.hid hK
    clear hd hFm hK
    go_simp
    exact HK.out _ _ rfl (Below.refl _ _)
  simp only [List.nil_append, List.cons_append]
  apply step_fix
  · intro a W Zs hS hFm hz hd
    have h9 := ev_get hFm.size (hd 2 9 rfl rfl)
    have hq := (hW.drew1.later hS).at
    unfold Wv.box at hq
    refine .inl ⟨wanted_none rfl _, fun K hK => ?_⟩
    have HK := Lib.hid hK
    clear hd hFm hK
    go_simp
    exact HK.out _ _ rfl (Below.refl _ _)
  simp only [List.nil_append, List.cons_append]
  apply step_fix
  · intro a W Zs hS hFm hz hd
    have h0 := hFm.old 0 rfl
    conv at h0 => rhs; whnf
    replace h0 := ev_get hFm.size h0
    refine .inl ⟨wanted_none rfl _, fun K hK => ?_⟩
    have HK := Lib.hid hK
    clear hd hFm hK
    go_simp
    exact HK.out _ _ rfl (Below.refl _ _)
  simp only [List.nil_append, List.cons_append]
  apply step_fix
  · intro a W Zs hS hFm hz hd
    have h11 := ev_get hFm.size (hd 4 11 rfl rfl)
    refine .inl ⟨wanted_none rfl _, fun K hK => ?_⟩
    have HK := Lib.hid hK
    clear hd hFm hK
    go_simp
    exact HK.out _ _ rfl (Below.refl _ _)
  simp only [List.nil_append, List.cons_append]
  apply step_fix
  · intro a W Zs hS hFm hz hd
    have h12 := ev_get hFm.size (hd 5 12 rfl rfl)
    refine .inl ⟨wanted_none rfl _, fun K hK => ?_⟩
    have HK := Lib.hid hK
    clear hd hFm hK
    go_simp
    exact HK.out _ _ rfl (Below.refl _ _)
  simp only [List.nil_append, List.cons_append]
  apply step_fix
  · intro a W Zs hS hFm hz hd
    have h13 := ev_get hFm.size (hd 6 13 rfl rfl)
    have hq := (hW.drew1.later hS).at
    unfold Wv.box at hq
    refine .inl ⟨wanted_none rfl _, fun K hK => ?_⟩
    have HK := Lib.hid hK
    clear hd hFm hK
    go_simp
    exact HK.out _ _ rfl (Below.refl _ _)
  simp only [List.nil_append, List.cons_append]
  apply step_fix
  · intro a W Zs hS hFm hz hd
    have h1 := hFm.old 1 rfl
    conv at h1 => rhs; whnf
    replace h1 := ev_get hFm.size h1
    refine .inl ⟨wanted_none rfl _, fun K hK => ?_⟩
    have HK := Lib.hid hK
    clear hd hFm hK
    go_simp
    exact HK.out _ _ rfl (Below.refl _ _)
  simp only [List.nil_append, List.cons_append]
  apply step_fix
  · intro a W Zs hS hFm hz hd
    have h14 := ev_get hFm.size (hd 7 14 rfl rfl)
    have h15 := ev_get hFm.size (hd 8 15 rfl rfl)
    refine .inl ⟨wanted_none rfl _, fun K hK => ?_⟩
    have HK := Lib.hid hK
    clear hd hFm hK
    go_simp
    refine (HS.out _ (hst.drew1.later hS)).mono ?_
    rintro e W' ⟨rfl, rfl⟩
    exact HK.out _ _ rfl (Below.refl _ _)
  simp only [List.nil_append, List.cons_append]
  apply step_fix
  · intro a W Zs hS hFm hz hd
    have h0 := hFm.old 0 rfl
    conv at h0 => rhs; whnf
    replace h0 := ev_get hFm.size h0
    refine .inl ⟨wanted_none rfl _, fun K hK => ?_⟩
    have HK := Lib.hid hK
    clear hd hFm hK
    go_simp
    exact HK.out _ _ rfl (Below.refl _ _)
  simp only [List.nil_append, List.cons_append]
  apply step_fix
  · intro a W Zs hS hFm hz hd
    have h17 := ev_get hFm.size (hd 10 17 rfl rfl)
    refine .inl ⟨wanted_none rfl _, fun K hK => ?_⟩
    have HK := Lib.hid hK
    clear hd hFm hK
    go_simp
    exact HK.out _ _ rfl (Below.refl _ _)
  simp only [List.nil_append, List.cons_append]
  apply step_fix
  · intro a W Zs hS hFm hz hd
    have h18 := ev_get hFm.size (hd 11 18 rfl rfl)
    refine .inl ⟨wanted_none rfl _, fun K hK => ?_⟩
    have HK := Lib.hid hK
    clear hd hFm hK
    go_simp
    exact HK.out _ _ rfl (Below.refl _ _)
  simp only [List.nil_append, List.cons_append]
  apply step_fix
  · intro a W Zs hS hFm hz hd
    have h19 := ev_get hFm.size (hd 12 19 rfl rfl)
    have hq := (hW.drew1.later hS).at
    unfold Wv.box at hq
    refine .inl ⟨wanted_none rfl _, fun K hK => ?_⟩
    have HK := Lib.hid hK
    clear hd hFm hK
    go_simp
    exact HK.out _ _ rfl (Below.refl _ _)
  simp only [List.nil_append, List.cons_append]
  apply step_fix
  · intro a W Zs hS hFm hz hd
    have h1 := hFm.old 1 rfl
    conv at h1 => rhs; whnf
    replace h1 := ev_get hFm.size h1
    refine .inl ⟨wanted_none rfl _, fun K hK => ?_⟩
    have HK := Lib.hid hK
    clear hd hFm hK
    go_simp
    exact HK.out _ _ rfl (Below.refl _ _)
  simp only [List.nil_append, List.cons_append]
  apply step_fix
  · intro a W Zs hS hFm hz hd
    have h20 := ev_get hFm.size (hd 13 20 rfl rfl)
    have h21 := ev_get hFm.size (hd 14 21 rfl rfl)
    refine .inl ⟨wanted_none rfl _, fun K hK => ?_⟩
    have HK := Lib.hid hK
    clear hd hFm hK
    go_simp
    refine (HV.out _ (hdv.drew1.later hS)).mono ?_
    rintro e W' ⟨rfl, rfl⟩
    exact HK.out _ _ rfl (Below.refl _ _)
  simp only [List.nil_append, List.cons_append]
  apply step_fix
  · intro a W Zs hS hFm hz hd
    have h0 := hFm.old 0 rfl
    conv at h0 => rhs; whnf
    replace h0 := ev_get hFm.size h0
    refine .inl ⟨wanted_none rfl _, fun K hK => ?_⟩
    have HK := Lib.hid hK
    clear hd hFm hK
    go_simp
    exact HK.out _ _ rfl (Below.refl _ _)
  simp only [List.nil_append, List.cons_append]
  apply step_fix
  · intro a W Zs hS hFm hz hd
    have h1 := hFm.old 1 rfl
    conv at h1 => rhs; whnf
    replace h1 := ev_get hFm.size h1
    refine .inl ⟨wanted_none rfl _, fun K hK => ?_⟩
    have HK := Lib.hid hK
    clear hd hFm hK
    go_simp
    exact HK.out _ _ rfl (Below.refl _ _)
  simp only [List.nil_append, List.cons_append]
  apply step_fix
  · intro a W Zs hS hFm hz hd
    have h2 := hFm.old 2 rfl
    conv at h2 => rhs; whnf
    replace h2 := ev_get hFm.size h2
    refine .inl ⟨wanted_none rfl _, fun K hK => ?_⟩
    have HK := Lib.hid hK
    clear hd hFm hK
    go_simp
    exact HK.out _ _ rfl (Below.refl _ _)
  simp only [List.nil_append, List.cons_append]
  apply step_fix
  · intro a W Zs hS hFm hz hd
    have h23 := ev_get hFm.size (hd 16 23 rfl rfl)
    have h24 := ev_get hFm.size (hd 17 24 rfl rfl)
    have h25 := ev_get hFm.size (hd 18 25 rfl rfl)
    refine .inl ⟨wanted_none rfl _, fun K hK => ?_⟩
    have HK := Lib.hid hK
    clear hd hFm hK
    go_simp
    refine (HOP.out _ (hM.drew1.later hS)).mono ?_
    rintro e W' ⟨rfl, hb⟩
    exact HK.out _ _ rfl hb
  simp only [List.nil_append, List.cons_append]
  apply step_fix
  · intro a W Zs hS hFm hz hd
    have h10 := ev_get hFm.size (hd 3 10 rfl rfl)
    have h16 := ev_get hFm.size (hd 9 16 rfl rfl)
    have h22 := ev_get hFm.size (hd 15 22 rfl rfl)
    have h26 := ev_get hFm.size (hd 19 26 rfl rfl)
    refine .inl ⟨wanted_none rfl _, fun K hK => ?_⟩
    have HK := Lib.hid hK
    clear hd hFm hK
    go_simp
    refine (HGS.out _).mono ?_
    rintro e W' ⟨rfl, hb⟩
    exact HK.out _ _ rfl hb
  simp only [List.nil_append, List.cons_append]
  apply step_fix
  · intro a W Zs hS hFm hz hd
    have h27 := ev_get hFm.size (hd 20 27 rfl rfl)
    refine .inl ⟨wanted_none rfl _, fun K hK => ?_⟩
    have HK := Lib.hid hK
    clear hd hFm hK
    go_simp
    exact HK.out _ _ rfl (Below.refl _ _)
  simp only [List.nil_append, List.cons_append]
  intro a w2 Zs hS hFm hz hd
  have e6 := hd 21 6 (by decide) rfl
  have e0 := hFm.old 0 rfl
  conv at e0 => rhs; whnf
  have e1 := hFm.old 1 rfl
  conv at e1 => rhs; whnf
  have e2 := hFm.old 2 rfl
  conv at e2 => rhs; whnf
  have e3 := hFm.old 3 rfl
  conv at e3 => rhs; whnf
  have e4 := hFm.old 4 rfl
  conv at e4 => rhs; whnf
  have e5 := hFm.old 5 rfl
  conv at e5 => rhs; whnf
  have hsz := hFm.size
  have hdf := hFm.defers
  clear hd hFm
  obtain ⟨t, df⟩ := a
  simp only at hsz hdf
  subst hdf
  obtain ⟨x, hx⟩ : ∃ x : Nat → Value, ∀ i, t.getD i undef = x i := ⟨fun i => t.getD i undef, fun _ => rfl⟩
  have h6 := (hx 6).symm.trans e6
  have h0 := (hx 0).symm.trans e0
  have h1 := (hx 1).symm.trans e1
  have h2 := (hx 2).symm.trans e2
  have h3 := (hx 3).symm.trans e3
  have h4 := (hx 4).symm.trans e4
  have h5 := (hx 5).symm.trans e5
  have ht' : t = #[x 0, x 1, x 2, x 3, x 4, x 5, x 6, x 7, x 8, x 9, x 10, x 11, x 12, x 13, x 14, x 15, x 16, x 17, x 18, x 19, x 20, x 21, x 22, x 23, x 24, x 25, x 26, x 27] := frame_lit t 28 hsz x hx
  clear hx hsz hz e6 e0 e1 e2 e3 e4 e5
  subst ht'
  (try dsimp only)
  rw [h6, h0, h1, h2, h3, h4, h5]
  clear h6 h0 h1 h2 h3 h4 h5
  have hb2 := from_drew hS
  go_wp2
  go_ret
  exact ⟨rfl, hb2⟩

/-- Both inputs. -/
def inD (y : Wv) (G : (Nat → Sd) × (Nat → Bool)) (k j nr : Nat) : List UInt8 := if k = 0 then guardL y.c (y.st.getD j 0) (y.dv.getD j 0) (openL y G j nr) else openL y G j nr

/-- The loop over both links. -/
def BothAt (y : Wv) (w : World) (G : (Nat → Sd) × (Nat → Bool)) (W : World) (D S : List UInt8) (i : Value) (w' : World) : Prop :=
  ∃ A B : List UInt8, ((i = .int .i64 0 ∧ A = [] ∧ B = []) ∨ (i = .int .i64 1 ∧ A = D ∧ B = []) ∨ (i = .int .i64 2 ∧ A = D ∧ B = S)) ∧ Below W.heap.size W w' ∧ WvM y w G w' ∧
    Blk w' W.heap.size 114 #[.string ⟨#[]⟩, .string ⟨#[]⟩] ∧ Blk w' (W.heap.size + 1) 114 #[.string ⟨A.toArray⟩, .string ⟨B.toArray⟩]

theorem BothAt.put {y : Wv} {w : World} {G : (Nat → Sd) × (Nat → Bool)} {W wr wn : World} {A B : List UInt8} (hab : Below W.heap.size W wr) (hM : WvM y w G wr) (hR : Blk wr W.heap.size 114 #[.string ⟨#[]⟩, .string ⟨#[]⟩])
    (hX : Blk wr (W.heap.size + 1) 114 #[.string ⟨A.toArray⟩, .string ⟨B.toArray⟩]) (nw : y.bw < W.heap.size) (no : y.bo < W.heap.size) (lw : w.heap.size ≤ y.bw) (hb : Below wr.heap.size wr wn) (i : Nat) (u : Value) :
    Below W.heap.size W (wn.setCell ⟨W.heap.size + 1, i, none⟩ u) ∧ WvM y w G (wn.setCell ⟨W.heap.size + 1, i, none⟩ u) ∧ Blk (wn.setCell ⟨W.heap.size + 1, i, none⟩ u) W.heap.size 114 #[.string ⟨#[]⟩, .string ⟨#[]⟩] ∧
    Blk (wn.setCell ⟨W.heap.size + 1, i, none⟩ u) (W.heap.size + 1) 114 ((#[.string ⟨A.toArray⟩, .string ⟨B.toArray⟩] : Array Value).setIfInBounds i u) := by
  have h1 := hab.trans (hb.mono hab.size)
  have hM2 := hM.later hb
  refine ⟨h1.setCell (p := ⟨W.heap.size + 1, i, none⟩) (by simp) u, ?_, (hR.later hb).far (p := ⟨W.heap.size + 1, i, none⟩) (by simp) u, (hX.later hb).set i u⟩
  obtain ⟨M, q1, q2⟩ := hM2.o
  exact ⟨hM2.hB.setCell (p := ⟨W.heap.size + 1, i, none⟩) (by show w.heap.size ≤ W.heap.size + 1; omega) u, hM2.lw, hM2.lo, hM2.ne, hM2.wv.far (p := ⟨W.heap.size + 1, i, none⟩) (by show y.bw ≠ W.heap.size + 1; omega) u, ⟨M, q1.far (p := ⟨W.heap.size + 1, i, none⟩) (by show y.bo ≠ W.heap.size + 1; omega) u, q2⟩⟩


set_option maxHeartbeats 3200000 in
theorem winputs_0 (y : Wv) (w : World) (ok : y.Ok w) (G : (Nat → Sd) × (Nat → Bool)) (W : World) (hM : WvM y w G W) (hG : ∀ i, (G.1 i).O.length ≤ 2000) (j : Nat) (hj : j < y.n) (k : Nat) (hk : k = 0) (nr fr : Nat) (hnr : ((j : Int) - y.d) % y.c.N = nr) (hfr : ((j : Int) - 2 * y.d) % y.c.N = fr) :
    Calls Tryz.prog 77 #[.pointer (some ⟨y.bw, 0, none⟩), .int .i64 j, .int .i64 1] W fun e W' => e = .returned (.agg #[.string ⟨(inD y G k j nr).toArray⟩, .string ⟨(openL y G j fr).toArray⟩]) ∧ Below W.heap.size W W' := by
  have HI1 := Lib.hid (fun W' => winput_g W')
  have HI := Lib.hid (show ∀ W', WvM y w G W' → Calls Tryz.prog 98 #[.pointer (some ⟨y.bw, 0, none⟩), .int .i64 j, .int .i64 1] W' fun e W'' => e = .returned (.string ⟨(inD y G k j nr).toArray⟩) ∧ Below W'.heap.size W' W'' from fun W' h => by
    unfold inD; rw [if_pos hk]; exact wguarded_any y w ok G W' h hG j hj nr hnr)
  have HF := Lib.hid (fun W' (h : WvM y w G W') => wopen_any y w ok G W' h hG j hj 2 (.inr rfl) fr hfr)
  have HI2 := Lib.hid (fun W' => winput_2 1 W')
  generalize inD y G k j nr = D at *
  generalize openL y G j fr = S at *
  have hab : Below W.heap.size W ((W.alloc (.cells #[.string ⟨#[]⟩, .string ⟨#[]⟩] 114)).alloc (.cells #[.string ⟨#[]⟩, .string ⟨#[]⟩] 114)) := (alloc_below W _).alloc (by simp) _
  have hR : Blk ((W.alloc (.cells #[.string ⟨#[]⟩, .string ⟨#[]⟩] 114)).alloc (.cells #[.string ⟨#[]⟩, .string ⟨#[]⟩] 114)) W.heap.size 114 #[.string ⟨#[]⟩, .string ⟨#[]⟩] := (Blk.new W _ _).alloc _
  have hX : Blk ((W.alloc (.cells #[.string ⟨#[]⟩, .string ⟨#[]⟩] 114)).alloc (.cells #[.string ⟨#[]⟩, .string ⟨#[]⟩] 114)) (W.heap.size + 1) 114 #[.string ⟨#[]⟩, .string ⟨#[]⟩] := Blk.newAt _ _ (by simp)
  have hM0 := hM.later hab
  have nw : y.bw < W.heap.size := hM.wv.lt
  have no : y.bo < W.heap.size := by obtain ⟨M, q, _⟩ := hM.o; exact q.lt
  have lw := hM.lw
  clear hM hnr hfr ok hG
  go_enter Tryz.func77, Tryz.ntmps77
  go_upto_region 2 with fail
  generalize (W.alloc (.cells #[.string ⟨#[]⟩, .string ⟨#[]⟩] 114)).alloc (.cells #[.string ⟨#[]⟩, .string ⟨#[]⟩] 114) = W1 at *
  go_wp2
  go_loopw [11] (fun i w' => BothAt y w G W D S i w') (fun i _ => 2 - (intOf i).toNat)
  case atStart => exact ⟨[], [], .inl ⟨rfl, rfl, rfl⟩, hab, hM0, hR, hX⟩
  case round =>
    clear hab hM0 hR hX
    obtain ⟨A, B, hi, hab, hM, hR, hX⟩ := hrel
    rcases hi with ⟨rfl, rfl, rfl⟩ | ⟨rfl, rfl, rfl⟩ | ⟨rfl, rfl, rfl⟩
    · go_wp2_with fail
      refine (HI1.out _).mono ?_
      rintro e wl ⟨rfl, rfl⟩
      go_wp2_with fail
      refine (HI.out _ hM).mono ?_
      rintro e wn ⟨rfl, hb⟩
      have hq := (hX.later hb).at
      have hf := (hX.later hb).frozen
      go_wp2
      go_roundw
      case rel => exact ⟨D, [], .inr (.inl ⟨rfl, rfl, rfl⟩), BothAt.put hab hM hR hX nw no lw hb 0 _⟩
      case measure => simp [intOf]
    · go_wp2_with fail
      refine (HI2.out _).mono ?_
      rintro e wl ⟨rfl, rfl⟩
      go_wp2_with fail
      refine (HF.out _ hM).mono ?_
      rintro e wn ⟨rfl, hb⟩
      have hq := (hX.later hb).at
      have hf := (hX.later hb).frozen
      go_wp2
      go_roundw
      case rel => exact ⟨A, S, .inr (.inr ⟨rfl, rfl, rfl⟩), BothAt.put hab hM hR hX nw no lw hb 1 _⟩
      case measure => simp [intOf]
    · have hq := hX.at
      have hqr := hR.at
      have hfr := hR.frozen
      go_wp2
      clear hq hqr hfr
      have hR2 := ((hR.set 0 (.string ⟨A.toArray⟩)).set 1 (.string ⟨B.toArray⟩))
      have hb2 := (hab.setCell (p := ⟨W.heap.size, 0, none⟩) (by simp) (.string ⟨A.toArray⟩)).setCell (p := ⟨W.heap.size, 1, none⟩) (by simp) (.string ⟨B.toArray⟩)
      have q := hR2.at
      refine bodyPost_ret (v := .agg #[.string ⟨A.toArray⟩, .string ⟨B.toArray⟩]) (by simp [results, Tryz.results77, go_sem, q]) rfl ⟨rfl, hb2⟩

set_option maxHeartbeats 3200000 in
theorem winputs_k (y : Wv) (w : World) (ok : y.Ok w) (G : (Nat → Sd) × (Nat → Bool)) (W : World) (hM : WvM y w G W) (hG : ∀ i, (G.1 i).O.length ≤ 2000) (j : Nat) (hj : j < y.n) (k : Nat) (hk : k ≠ 0) (nr fr : Nat) (hnr : ((j : Int) - y.d) % y.c.N = nr) (hfr : ((j : Int) - 2 * y.d) % y.c.N = fr) (u : Int) (hu : u ≠ 1) :
    Calls Tryz.prog 77 #[.pointer (some ⟨y.bw, 0, none⟩), .int .i64 j, .int .i64 u] W fun e W' => e = .returned (.agg #[.string ⟨(inD y G k j nr).toArray⟩, .string ⟨(openL y G j fr).toArray⟩]) ∧ Below W.heap.size W W' := by
  have HI1 := Lib.hid (fun W' => winput_o u W' hu)
  have HI := Lib.hid (show ∀ W', WvM y w G W' → Calls Tryz.prog 99 #[.pointer (some ⟨y.bw, 0, none⟩), .int .i64 j, .int .i64 1] W' fun e W'' => e = .returned (.string ⟨(inD y G k j nr).toArray⟩) ∧ Below W'.heap.size W' W'' from fun W' h => by
    unfold inD; rw [if_neg hk]; exact wopen_any y w ok G W' h hG j hj 1 (.inl rfl) nr (by rw [Int.one_mul]; exact hnr))
  have HF := Lib.hid (fun W' (h : WvM y w G W') => wopen_any y w ok G W' h hG j hj 2 (.inr rfl) fr hfr)
  have HI2 := Lib.hid (fun W' => winput_2 u W')
  generalize inD y G k j nr = D at *
  generalize openL y G j fr = S at *
  have hab : Below W.heap.size W ((W.alloc (.cells #[.string ⟨#[]⟩, .string ⟨#[]⟩] 114)).alloc (.cells #[.string ⟨#[]⟩, .string ⟨#[]⟩] 114)) := (alloc_below W _).alloc (by simp) _
  have hR : Blk ((W.alloc (.cells #[.string ⟨#[]⟩, .string ⟨#[]⟩] 114)).alloc (.cells #[.string ⟨#[]⟩, .string ⟨#[]⟩] 114)) W.heap.size 114 #[.string ⟨#[]⟩, .string ⟨#[]⟩] := (Blk.new W _ _).alloc _
  have hX : Blk ((W.alloc (.cells #[.string ⟨#[]⟩, .string ⟨#[]⟩] 114)).alloc (.cells #[.string ⟨#[]⟩, .string ⟨#[]⟩] 114)) (W.heap.size + 1) 114 #[.string ⟨#[]⟩, .string ⟨#[]⟩] := Blk.newAt _ _ (by simp)
  have hM0 := hM.later hab
  have nw : y.bw < W.heap.size := hM.wv.lt
  have no : y.bo < W.heap.size := by obtain ⟨M, q, _⟩ := hM.o; exact q.lt
  have lw := hM.lw
  clear hM hnr hfr ok hG
  go_enter Tryz.func77, Tryz.ntmps77
  go_upto_region 2 with fail
  generalize (W.alloc (.cells #[.string ⟨#[]⟩, .string ⟨#[]⟩] 114)).alloc (.cells #[.string ⟨#[]⟩, .string ⟨#[]⟩] 114) = W1 at *
  go_wp2
  go_loopw [11] (fun i w' => BothAt y w G W D S i w') (fun i _ => 2 - (intOf i).toNat)
  case atStart => exact ⟨[], [], .inl ⟨rfl, rfl, rfl⟩, hab, hM0, hR, hX⟩
  case round =>
    clear hab hM0 hR hX
    obtain ⟨A, B, hi, hab, hM, hR, hX⟩ := hrel
    rcases hi with ⟨rfl, rfl, rfl⟩ | ⟨rfl, rfl, rfl⟩ | ⟨rfl, rfl, rfl⟩
    · go_wp2_with fail
      refine (HI1.out _).mono ?_
      rintro e wl ⟨rfl, rfl⟩
      go_wp2_with fail
      refine (HI.out _ hM).mono ?_
      rintro e wn ⟨rfl, hb⟩
      have hq := (hX.later hb).at
      have hf := (hX.later hb).frozen
      go_wp2
      go_roundw
      case rel => exact ⟨D, [], .inr (.inl ⟨rfl, rfl, rfl⟩), BothAt.put hab hM hR hX nw no lw hb 0 _⟩
      case measure => simp [intOf]
    · go_wp2_with fail
      refine (HI2.out _).mono ?_
      rintro e wl ⟨rfl, rfl⟩
      go_wp2_with fail
      refine (HF.out _ hM).mono ?_
      rintro e wn ⟨rfl, hb⟩
      have hq := (hX.later hb).at
      have hf := (hX.later hb).frozen
      go_wp2
      go_roundw
      case rel => exact ⟨A, S, .inr (.inr ⟨rfl, rfl, rfl⟩), BothAt.put hab hM hR hX nw no lw hb 1 _⟩
      case measure => simp [intOf]
    · have hq := hX.at
      have hqr := hR.at
      have hfr := hR.frozen
      go_wp2
      clear hq hqr hfr
      have hR2 := ((hR.set 0 (.string ⟨A.toArray⟩)).set 1 (.string ⟨B.toArray⟩))
      have hb2 := (hab.setCell (p := ⟨W.heap.size, 0, none⟩) (by simp) (.string ⟨A.toArray⟩)).setCell (p := ⟨W.heap.size, 1, none⟩) (by simp) (.string ⟨B.toArray⟩)
      have q := hR2.at
      refine bodyPost_ret (v := .agg #[.string ⟨A.toArray⟩, .string ⟨B.toArray⟩]) (by simp [results, Tryz.results77, go_sem, q]) rfl ⟨rfl, hb2⟩

theorem winputs_any (y : Wv) (w : World) (ok : y.Ok w) (G : (Nat → Sd) × (Nat → Bool)) (W : World) (hM : WvM y w G W) (hG : ∀ i, (G.1 i).O.length ≤ 2000) (j : Nat) (hj : j < y.n) (k : Nat) (nr fr : Nat) (hnr : ((j : Int) - y.d) % y.c.N = nr) (hfr : ((j : Int) - 2 * y.d) % y.c.N = fr) :
    Calls Tryz.prog 77 #[.pointer (some ⟨y.bw, 0, none⟩), .int .i64 j, .int .i64 ((k : Int) + 1)] W fun e W' => e = .returned (.agg #[.string ⟨(inD y G k j nr).toArray⟩, .string ⟨(openL y G j fr).toArray⟩]) ∧ Below W.heap.size W W' := by
  by_cases hk : k = 0
  · rw [show ((k : Int) + 1) = 1 by omega]; exact winputs_0 y w ok G W hM hG j hj k hk nr fr hnr hfr
  · exact winputs_k y w ok G W hM hG j hj k hk nr fr hnr hfr _ (by omega)

end Go.Proofs.YthhmedlefahccaaGreatDoor
/-
  Contracts of package spread, fifth part: what a node passes on.
-/
namespace Go.Proofs.YthhmedlefahccaaGreatDoor
open Go.RowKit Plait
set_option maxRecDepth 100000
set_option linter.unusedVariables false
set_option linter.unusedSimpArgs false

/-- The side of a node, as the program has it. -/
def passL (y : Wv) (G : (Nat → Sd) × (Nat → Bool)) (k j nr fr : Nat) : Sd :=
  ⟨inD y G k j nr, openL y G j fr, if y.st.getD j 0 = 0 then [] else outL (decide (0 < k) || decide (y.c.N ≤ y.s)) (inD y G k j nr) (openL y G j fr), (k : Int) + 1⟩

set_option maxHeartbeats 3200000 in
theorem wpassed_any (y : Wv) (w : World) (ok : y.Ok w) (G : (Nat → Sd) × (Nat → Bool)) (W : World) (hM : WvM y w G W) (hG : ∀ i, (G.1 i).O.length ≤ 2000) (j : Nat) (hj : j < y.n) (k : Nat) (hk : k < 12) (nr fr : Nat) (hnr : ((j : Int) - y.d) % y.c.N = nr) (hfr : ((j : Int) - 2 * y.d) % y.c.N = fr) :
    Calls Tryz.prog 61 #[.pointer (some ⟨y.bw, 0, none⟩), .int .i64 j, .int .i64 ((k : Int) + 1)] W fun e W' => e = .returned (.agg #[.string ⟨(passL y G k j nr fr).D.toArray⟩, .string ⟨(passL y G k j nr fr).S.toArray⟩, .string ⟨(passL y G k j nr fr).O.toArray⟩, .int .i64 (passL y G k j nr fr).F]) ∧ Below W.heap.size W W' := by
  have HI := Lib.hid (fun W' h => winputs_any y w ok G W' h hG j hj k nr fr hnr hfr)
  have HST := Lib.hid (fun W (h : Row W y.sa y.st) => watI_any y.sa y.st y.sc j W h (by rw [ok.stl]; exact hj))
  have l2 := openL_len y w ok G hG j fr
  have l1 : (inD y G k j nr).length ≤ 2000 := by
    have := openL_len y w ok G hG j nr
    unfold inD guardL
    split
    · split
      · exact this
      · simp
    · exact this
  have HP := Lib.hid (show passL y G k j nr fr = ⟨inD y G k j nr, openL y G j fr, if y.st.getD j 0 = 0 then [] else outL (decide (0 < k) || decide (y.c.N ≤ y.s)) (inD y G k j nr) (openL y G j fr), (k : Int) + 1⟩ from rfl)
  have hX : (passL y G k j nr fr).D = inD y G k j nr ∧ (passL y G k j nr fr).S = openL y G j fr ∧ (passL y G k j nr fr).F = (k : Int) + 1 := ⟨rfl, rfl, rfl⟩
  obtain ⟨x1, x2, x3⟩ := hX
  rw [x1, x2, x3]
  have HO := Lib.hid (show (passL y G k j nr fr).O = if y.st.getD j 0 = 0 then [] else outL (decide (0 < k) || decide (y.c.N ≤ y.s)) (inD y G k j nr) (openL y G j fr) from rfl)
  clear x1 x2 x3 HP hnr hfr
  generalize (passL y G k j nr fr).O = O at *
  generalize inD y G k j nr = D at *
  generalize openL y G j fr = S at *
  have hcm : ∃ cm, cm = (decide (0 < k) || decide (y.c.N ≤ y.s)) := ⟨_, rfl⟩
  obtain ⟨cm, hcm⟩ := hcm
  rw [← hcm] at HO
  have HC := Lib.hid (fun W' h => wcompares_any y w G W' h k cm hk hcm)
  have HL := Lib.hid (fun W' => lOut_any cm D S W' (by omega) (by omega))
  clear hcm
  generalize y.st.getD j 0 = z at *
  have hab : Below W.heap.size W (W.alloc (.cells #[.string ⟨#[]⟩, .string ⟨#[]⟩, .string ⟨#[]⟩, .int .i64 0] 53)) := alloc_below W _
  have hR : Blk (W.alloc (.cells #[.string ⟨#[]⟩, .string ⟨#[]⟩, .string ⟨#[]⟩, .int .i64 0] 53)) W.heap.size 53 #[.string ⟨#[]⟩, .string ⟨#[]⟩, .string ⟨#[]⟩, .int .i64 0] := Blk.new W _ _
  have hM0 := hM.later hab
  clear hM
  go_enter Tryz.func61, Tryz.ntmps61
  go_upto_region 1 with fail
  generalize W.alloc (.cells #[.string ⟨#[]⟩, .string ⟨#[]⟩, .string ⟨#[]⟩, .int .i64 0] 53) = W1 at *
  go_wp2_with fail
  refine (HI.out _ hM0).mono ?_
  rintro e wn ⟨rfl, hb⟩
  replace hab := hab.trans (hb.mono hab.size)
  replace hR := hR.later hb
  replace hM0 := hM0.later hb
  clear hb
  go_upto_region 3 with fail
  have hX : Blk ((wn.alloc (.cells #[.string ⟨D.toArray⟩, .string ⟨S.toArray⟩] 114)).alloc (.cells #[.string ⟨D.toArray⟩, .string ⟨S.toArray⟩, .string ⟨#[]⟩, .int .i64 ((k : Int) + 1)] 53)) (wn.heap.size + 1) 53 #[.string ⟨D.toArray⟩, .string ⟨S.toArray⟩, .string ⟨#[]⟩, .int .i64 ((k : Int) + 1)] := Blk.newAt _ _ (by simp)
  have hb : Below wn.heap.size wn ((wn.alloc (.cells #[.string ⟨D.toArray⟩, .string ⟨S.toArray⟩] 114)).alloc (.cells #[.string ⟨D.toArray⟩, .string ⟨S.toArray⟩, .string ⟨#[]⟩, .int .i64 ((k : Int) + 1)] 53)) := (alloc_below wn _).alloc (by simp) _
  replace hab := hab.trans (hb.mono hab.size)
  have hRl := hR.lt
  replace hR := hR.later hb
  replace hM0 := hM0.later hb
  clear hb
  have hbs : W.heap.size < wn.heap.size + 1 := by omega
  clear hRl
  generalize (wn.alloc (.cells #[.string ⟨D.toArray⟩, .string ⟨S.toArray⟩] 114)).alloc (.cells #[.string ⟨D.toArray⟩, .string ⟨S.toArray⟩, .string ⟨#[]⟩, .int .i64 ((k : Int) + 1)] 53) = w2 at *
  generalize wn.heap.size + 1 = bs at *
  generalize wn.heap.size = ba at *
  have hst := ok.st.later hM0.hB
  have hq := hM0.wv.at
  unfold Wv.box at hq
  go_wp2_with fail
  refine (HST.out _ hst).mono ?_
  rintro e wl ⟨rfl, rfl⟩
  clear hq hst
  by_cases hz : z = 0
  · have HE := Lib.hid (HO.out.trans (if_pos hz))
    have d1 : (z != 0) = false := by simp [hz]
    have hq := hX.at
    have hqr := hR.at
    have hfr := hR.frozen
    clear HO hz
    go_wp2
    have hR2 := ((((hR.set 0 (.string ⟨D.toArray⟩)).set 1 (.string ⟨S.toArray⟩)).set 2 (.string ⟨#[]⟩)).set 3 (.int .i64 ((k : Int) + 1)))
    have hb2 := (((hab.setCell (p := ⟨W.heap.size, 0, none⟩) (by simp) (.string ⟨D.toArray⟩)).setCell (p := ⟨W.heap.size, 1, none⟩) (by simp) (.string ⟨S.toArray⟩)).setCell (p := ⟨W.heap.size, 2, none⟩) (by simp) (.string ⟨#[]⟩)).setCell (p := ⟨W.heap.size, 3, none⟩) (by simp) (.int .i64 ((k : Int) + 1))
    clear hq hqr hfr
    have q := hR2.at
    refine bodyPost_ret (v := .agg #[.string ⟨D.toArray⟩, .string ⟨S.toArray⟩, .string ⟨#[]⟩, .int .i64 ((k : Int) + 1)]) (by simp [results, Tryz.results61, go_sem, q]) rfl ⟨by rw [HE.out], hb2⟩
  · have HE := Lib.hid (HO.out.trans (if_neg hz))
    have d1 : (z != 0) = true := by simpa using hz
    clear HO hz
    go_upto_region 4 with fail
    refine region_tail [some 26, some 27, some 28, some 29, some 30, some 31, some 32, some 33, some 34, none] [none, none, none, none, none, none, none, none, none, none] 36 9 (by kernel_rfl) (by kernel_rfl) rfl rfl ?_
    simp only [List.take_succ_cons, List.take_zero, List.drop_succ_cons, List.drop_zero]
    apply step_fix
    · intro a W Zs hS hFm hz hd
      have h0 := hFm.old 0 rfl
      conv at h0 => rhs; whnf
      replace h0 := ev_get hFm.size h0
      refine .inl ⟨wanted_none rfl _, fun K hK => ?_⟩
      have HK := Lib.hid hK
      clear hd hFm hK
      go_simp
      exact HK.out _ _ rfl (Below.refl _ _)
    simp only [List.nil_append, List.cons_append]
    apply step_fix
    · intro a W Zs hS hFm hz hd
      have h2 := hFm.old 2 rfl
      conv at h2 => rhs; whnf
      replace h2 := ev_get hFm.size h2
      refine .inl ⟨wanted_none rfl _, fun K hK => ?_⟩
      have HK := Lib.hid hK
      clear hd hFm hK
      go_simp
      exact HK.out _ _ rfl (Below.refl _ _)
    simp only [List.nil_append, List.cons_append]
    apply step_fix
    · intro a W Zs hS hFm hz hd
      have h26 := ev_get hFm.size (hd 0 26 rfl rfl)
      have h27 := ev_get hFm.size (hd 1 27 rfl rfl)
      refine .inl ⟨wanted_none rfl _, fun K hK => ?_⟩
      have HK := Lib.hid hK
      clear hd hFm hK
      go_simp
      refine (HC.out _ (hM0.drew1.later hS)).mono ?_
      rintro e W' ⟨rfl, hb⟩
      exact HK.out _ _ rfl hb
    simp only [List.nil_append, List.cons_append]
    apply step_fix
    · intro a W Zs hS hFm hz hd
      have h8 := hFm.old 8 rfl
      conv at h8 => rhs; whnf
      replace h8 := ev_get hFm.size h8
      refine .inl ⟨wanted_none rfl _, fun K hK => ?_⟩
      have HK := Lib.hid hK
      clear hd hFm hK
      go_simp
      exact HK.out _ _ rfl (Below.refl _ _)
    simp only [List.nil_append, List.cons_append]
    apply step_fix
    · intro a W Zs hS hFm hz hd
      have h29 := ev_get hFm.size (hd 3 29 rfl rfl)
      have hq := (hX.drew1.later hS).at
      refine .inl ⟨wanted_none rfl _, fun K hK => ?_⟩
      have HK := Lib.hid hK
      clear hd hFm hK
      go_simp
      exact HK.out _ _ rfl (Below.refl _ _)
    simp only [List.nil_append, List.cons_append]
    apply step_fix
    · intro a W Zs hS hFm hz hd
      have h8 := hFm.old 8 rfl
      conv at h8 => rhs; whnf
      replace h8 := ev_get hFm.size h8
      refine .inl ⟨wanted_none rfl _, fun K hK => ?_⟩
      have HK := Lib.hid hK
      clear hd hFm hK
      go_simp
      exact HK.out _ _ rfl (Below.refl _ _)
    simp only [List.nil_append, List.cons_append]
    apply step_fix
    · intro a W Zs hS hFm hz hd
      have h31 := ev_get hFm.size (hd 5 31 rfl rfl)
      have hq := (hX.drew1.later hS).at
      refine .inl ⟨wanted_none rfl _, fun K hK => ?_⟩
      have HK := Lib.hid hK
      clear hd hFm hK
      go_simp
      exact HK.out _ _ rfl (Below.refl _ _)
    simp only [List.nil_append, List.cons_append]
    apply step_fix
    · intro a W Zs hS hFm hz hd
      have h28 := ev_get hFm.size (hd 2 28 rfl rfl)
      have h30 := ev_get hFm.size (hd 4 30 rfl rfl)
      have h32 := ev_get hFm.size (hd 6 32 rfl rfl)
      refine .inl ⟨wanted_none rfl _, fun K hK => ?_⟩
      have HK := Lib.hid hK
      clear hd hFm hK
      go_simp
      refine (HL.out _).mono ?_
      rintro e W' ⟨rfl, hb⟩
      exact HK.out _ _ rfl hb
    simp only [List.nil_append, List.cons_append]
    apply step_fix
    · intro a W Zs hS hFm hz hd
      have h8 := hFm.old 8 rfl
      conv at h8 => rhs; whnf
      replace h8 := ev_get hFm.size h8
      refine .inl ⟨wanted_none rfl _, fun K hK => ?_⟩
      have HK := Lib.hid hK
      clear hd hFm hK
      go_simp
      exact HK.out _ _ rfl (Below.refl _ _)
    simp only [List.nil_append, List.cons_append]
    intro a w3 Zs hS hFm hz hd
    have e33 := hd 7 33 (by decide) rfl
    have e34 := hd 8 34 (by decide) rfl
    have e0 := hFm.old 0 rfl
    conv at e0 => rhs; whnf
    have e1 := hFm.old 1 rfl
    conv at e1 => rhs; whnf
    have e2 := hFm.old 2 rfl
    conv at e2 => rhs; whnf
    have e3 := hFm.old 3 rfl
    conv at e3 => rhs; whnf
    have e4 := hFm.old 4 rfl
    conv at e4 => rhs; whnf
    have e5 := hFm.old 5 rfl
    conv at e5 => rhs; whnf
    have e6 := hFm.old 6 rfl
    conv at e6 => rhs; whnf
    have e7 := hFm.old 7 rfl
    conv at e7 => rhs; whnf
    have e8 := hFm.old 8 rfl
    conv at e8 => rhs; whnf
    have e9 := hFm.old 9 rfl
    conv at e9 => rhs; whnf
    have e10 := hFm.old 10 rfl
    conv at e10 => rhs; whnf
    have e11 := hFm.old 11 rfl
    conv at e11 => rhs; whnf
    have e12 := hFm.old 12 rfl
    conv at e12 => rhs; whnf
    have e13 := hFm.old 13 rfl
    conv at e13 => rhs; whnf
    have e14 := hFm.old 14 rfl
    conv at e14 => rhs; whnf
    have e15 := hFm.old 15 rfl
    conv at e15 => rhs; whnf
    have e16 := hFm.old 16 rfl
    conv at e16 => rhs; whnf
    have e17 := hFm.old 17 rfl
    conv at e17 => rhs; whnf
    have e18 := hFm.old 18 rfl
    conv at e18 => rhs; whnf
    have e19 := hFm.old 19 rfl
    conv at e19 => rhs; whnf
    have e20 := hFm.old 20 rfl
    conv at e20 => rhs; whnf
    have e21 := hFm.old 21 rfl
    conv at e21 => rhs; whnf
    have e22 := hFm.old 22 rfl
    conv at e22 => rhs; whnf
    have e23 := hFm.old 23 rfl
    conv at e23 => rhs; whnf
    have e24 := hFm.old 24 rfl
    conv at e24 => rhs; whnf
    have e25 := hFm.old 25 rfl
    conv at e25 => rhs; whnf
    have e35 := hFm.old 35 rfl
    conv at e35 => rhs; whnf
    have hsz := hFm.size
    have hdf := hFm.defers
    clear hd hFm
    obtain ⟨t, df⟩ := a
    simp only at hsz hdf
    subst hdf
    obtain ⟨x, hx⟩ : ∃ x : Nat → Value, ∀ i, t.getD i undef = x i := ⟨fun i => t.getD i undef, fun _ => rfl⟩
    have h33 := (hx 33).symm.trans e33
    have h34 := (hx 34).symm.trans e34
    have h0 := (hx 0).symm.trans e0
    have h1 := (hx 1).symm.trans e1
    have h2 := (hx 2).symm.trans e2
    have h3 := (hx 3).symm.trans e3
    have h4 := (hx 4).symm.trans e4
    have h5 := (hx 5).symm.trans e5
    have h6 := (hx 6).symm.trans e6
    have h7 := (hx 7).symm.trans e7
    have h8 := (hx 8).symm.trans e8
    have h9 := (hx 9).symm.trans e9
    have h10 := (hx 10).symm.trans e10
    have h11 := (hx 11).symm.trans e11
    have h12 := (hx 12).symm.trans e12
    have h13 := (hx 13).symm.trans e13
    have h14 := (hx 14).symm.trans e14
    have h15 := (hx 15).symm.trans e15
    have h16 := (hx 16).symm.trans e16
    have h17 := (hx 17).symm.trans e17
    have h18 := (hx 18).symm.trans e18
    have h19 := (hx 19).symm.trans e19
    have h20 := (hx 20).symm.trans e20
    have h21 := (hx 21).symm.trans e21
    have h22 := (hx 22).symm.trans e22
    have h23 := (hx 23).symm.trans e23
    have h24 := (hx 24).symm.trans e24
    have h25 := (hx 25).symm.trans e25
    have h35 := (hx 35).symm.trans e35
    have ht' : t = #[x 0, x 1, x 2, x 3, x 4, x 5, x 6, x 7, x 8, x 9, x 10, x 11, x 12, x 13, x 14, x 15, x 16, x 17, x 18, x 19, x 20, x 21, x 22, x 23, x 24, x 25, x 26, x 27, x 28, x 29, x 30, x 31, x 32, x 33, x 34, x 35] := frame_lit t 36 hsz x hx
    clear hx hsz hz e33 e34 e0 e1 e2 e3 e4 e5 e6 e7 e8 e9 e10 e11 e12 e13 e14 e15 e16 e17 e18 e19 e20 e21 e22 e23 e24 e25 e35
    subst ht'
    (try dsimp only)
    rw [h33, h34, h0, h1, h2, h3, h4, h5, h6, h7, h8, h9, h10, h11, h12, h13, h14, h15, h16, h17, h18, h19, h20, h21, h22, h23, h24, h25, h35]
    clear h33 h34 h0 h1 h2 h3 h4 h5 h6 h7 h8 h9 h10 h11 h12 h13 h14 h15 h16 h17 h18 h19 h20 h21 h22 h23 h24 h25 h35
    rw [undef_fold]
    have hb := from_drew hS
    replace hab := hab.trans (hb.mono hab.size)
    replace hR := hR.later hb
    replace hX := hX.later hb
    clear hS hb hM0 HC HL
    rw [← HE.out]
    clear HE
    have hq := hX.at
    have hf := hX.frozen
    have hqr := hR.at
    have hfr := hR.frozen
    have ne : bs ≠ W.heap.size := by omega
    go_wp2
    clear hq hf hqr hfr
    have hR1 := hR.far (p := ⟨bs, 2, none⟩) (by show W.heap.size ≠ bs; omega) (.string ⟨O.toArray⟩)
    have hR2 := ((((hR1.set 0 (.string ⟨D.toArray⟩)).set 1 (.string ⟨S.toArray⟩)).set 2 (.string ⟨O.toArray⟩)).set 3 (.int .i64 ((k : Int) + 1)))
    have hb2 := ((((hab.setCell (p := ⟨bs, 2, none⟩) (by show W.heap.size ≤ bs; omega) (.string ⟨O.toArray⟩)).setCell (p := ⟨W.heap.size, 0, none⟩) (by simp) (.string ⟨D.toArray⟩)).setCell (p := ⟨W.heap.size, 1, none⟩) (by simp) (.string ⟨S.toArray⟩)).setCell (p := ⟨W.heap.size, 2, none⟩) (by simp) (.string ⟨O.toArray⟩)).setCell (p := ⟨W.heap.size, 3, none⟩) (by simp) (.int .i64 ((k : Int) + 1))
    have q := hR2.at
    refine bodyPost_ret (v := .agg #[.string ⟨D.toArray⟩, .string ⟨S.toArray⟩, .string ⟨O.toArray⟩, .int .i64 ((k : Int) + 1)]) (by simp [results, Tryz.results61, go_sem, q]) rfl ⟨rfl, hb2⟩

end Go.Proofs.YthhmedlefahccaaGreatDoor
/-
  Plain mathematics of a slot, all round, on: who is where, which links lie between.
-/
namespace Plait

/-- As it may be. -/
structure Sp.Ok (x : Sp) : Prop where
  c : x.c.Ok
  d : x.d = 1 ∨ x.d = -1
  p0 : 0 ≤ x.p0 ∧ x.p0 < x.c.N
  snd : clean x.snd = x.snd
  oth : clean x.oth = x.oth

theorem Sp.nd_in {x : Sp} (h : x.Ok) (k : Int) : 0 ≤ x.nd k ∧ x.nd k < x.c.N := by
  have := h.c.n6
  exact ⟨Int.emod_nonneg _ (by omega), Int.emod_lt_of_pos _ (by omega)⟩

theorem Sp.nd_node {x : Sp} (h : x.Ok) (k : Int) : nodeI x.c.N (x.nd k) = true := by
  have := x.nd_in h k
  unfold nodeI
  simp; omega

theorem Sp.nd_sub (x : Sp) (a b : Int) : (x.nd b - x.nd a) % x.c.N = (x.d * (b - a)) % x.c.N := by
  unfold Sp.nd
  rw [Int.sub_emod, Int.emod_emod, Int.emod_emod, ← Int.sub_emod, Int.mul_sub]
  congr 1
  omega

theorem Sp.nd_zero {x : Sp} (h : x.Ok) : x.nd 0 = x.p0 := by
  unfold Sp.nd
  rw [Int.mul_zero, Int.add_zero]
  exact Int.emod_eq_of_lt h.p0.1 h.p0.2

/-- Two places are the same node just where they are rings apart. -/
theorem Sp.nd_eq {x : Sp} (h : x.Ok) (a b : Int) : x.nd a = x.nd b ↔ (b - a) % x.c.N = 0 := by
  have h6 := h.c.n6
  have i1 := x.nd_in h a
  have i2 := x.nd_in h b
  have e := x.nd_sub a b
  have key : (x.d * (b - a)) % x.c.N = 0 ↔ (b - a) % x.c.N = 0 := by
    rcases h.d with hd | hd <;> rw [hd]
    · rw [Int.one_mul]
    · rw [show -1 * (b - a) = -(b - a) by omega, ← Int.dvd_iff_emod_eq_zero, ← Int.dvd_iff_emod_eq_zero]
      exact Int.dvd_neg
  rw [← key, ← e]
  constructor
  · intro q; rw [q]; simp
  · intro q
    have : x.c.N ∣ (x.nd b - x.nd a) := Int.dvd_of_emod_eq_zero q
    obtain ⟨m, hm⟩ := this
    have : m = 0 := by
      rcases Int.lt_trichotomy m 0 with hlt | hz | hgt
      · have : x.c.N * m ≤ x.c.N * (-1) := Int.mul_le_mul_of_nonneg_left (by omega) (by omega)
        omega
      · exact hz
      · have : x.c.N * 1 ≤ x.c.N * m := Int.mul_le_mul_of_nonneg_left (by omega) (by omega)
        omega
    rw [this, Int.mul_zero] at hm
    omega

theorem Sp.nd_ne {x : Sp} (h : x.Ok) (a b : Int) (h1 : a < b) (h2 : b - a < x.c.N) : x.nd a ≠ x.nd b := by
  intro e
  rw [Sp.nd_eq h, Int.emod_eq_of_lt (by omega) h2] at e
  omega

theorem emod_neg1 (n : Int) (h : 6 ≤ n) : (-1) % n = n - 1 := by
  rw [show (-1 : Int) = (n - 1) + n * (-1) by rw [Int.mul_neg, Int.mul_one]; omega, Int.add_mul_emod_self_left]
  exact Int.emod_eq_of_lt (by omega) (by omega)
theorem emod_neg2 (n : Int) (h : 6 ≤ n) : (-2) % n = n - 2 := by
  rw [show (-2 : Int) = (n - 2) + n * (-1) by rw [Int.mul_neg, Int.mul_one]; omega, Int.add_mul_emod_self_left]
  exact Int.emod_eq_of_lt (by omega) (by omega)

/-- The link to the next one. -/
theorem Sp.link1 {x : Sp} (h : x.Ok) (k : Int) : linkI x.c.N (x.nd k) (x.nd (k + 1)) = (if x.d = 1 then x.nd k else x.nd (k + 1), true) := by
  have h6 := h.c.n6
  have e := x.nd_sub k (k + 1)
  have e2 := x.nd_sub (k + 1) k
  rw [show k + 1 - k = 1 by omega] at e
  rw [show k - (k + 1) = -1 by omega] at e2
  rcases h.d with hd | hd
  · rw [hd] at e
    rw [if_pos hd]
    exact linkI_1 _ _ _ (x.nd_node h _) (x.nd_node h _) (by rw [e]; exact Int.emod_eq_of_lt (by omega) (by omega))
  · rw [hd] at e e2
    rw [if_neg (by omega)]
    have q1 : (-1 * 1 : Int) % x.c.N = x.c.N - 1 := emod_neg1 _ h6
    refine linkI_3 _ _ _ (x.nd_node h _) (x.nd_node h _) (by omega) (by omega) (by rw [e2]; exact Int.emod_eq_of_lt (by omega) (by omega))

/-- The link to the one behind it. -/
theorem Sp.link2 {x : Sp} (h : x.Ok) (k : Int) : linkI x.c.N (x.nd k) (x.nd (k + 1 + 1)) = (x.c.N + (if x.d = 1 then x.nd k else x.nd (k + 1 + 1)), true) := by
  have h6 := h.c.n6
  have e := x.nd_sub k (k + 1 + 1)
  have e2 := x.nd_sub (k + 1 + 1) k
  rw [show k + 1 + 1 - k = 2 by omega] at e
  rw [show k - (k + 1 + 1) = -2 by omega] at e2
  rcases h.d with hd | hd
  · rw [hd] at e
    rw [if_pos hd]
    exact linkI_2 _ _ _ (x.nd_node h _) (x.nd_node h _) (by rw [e]; exact Int.emod_eq_of_lt (by omega) (by omega))
  · rw [hd] at e e2
    rw [if_neg (by omega)]
    have q1 : (-1 * 2 : Int) % x.c.N = x.c.N - 2 := emod_neg2 _ h6
    refine linkI_4 _ _ _ (x.nd_node h _) (x.nd_node h _) (by rw [e, q1]; omega) (by rw [e, q1]; omega) (by rw [e2]; exact Int.emod_eq_of_lt (by omega) (by omega))

/-- A node that is the locus hits what goes from it alone. -/
theorem hits_node (c : Cf) (f : Fa) (a b : Int) (hk : f.K = 1) : hitsB c f a b = (f.At == a) := by unfold hitsB; rw [if_pos hk]
theorem hits_none (c : Cf) (f : Fa) (a b : Int) (h1 : f.K ≠ 1) (h2 : f.K ≠ 2) : hitsB c f a b = false := by unfold hitsB; rw [if_neg h1, if_neg h2]

/-- A link that is the locus hits the near link here, or the far one, not both. -/
theorem Sp.hit1 {x : Sp} (h : x.Ok) (hk : x.f.K = 2) (k : Int) : hitsB x.c x.f (x.nd k) (x.nd (k + 1)) = ((if x.d = 1 then x.nd k else x.nd (k + 1)) == x.f.At) := by
  unfold hitsB
  rw [if_neg (by omega), if_pos hk, Sp.link1 h k]
  simp
theorem Sp.hit2 {x : Sp} (h : x.Ok) (hk : x.f.K = 2) (k : Int) : hitsB x.c x.f (x.nd k) (x.nd (k + 1 + 1)) = ((x.c.N + (if x.d = 1 then x.nd k else x.nd (k + 1 + 1))) == x.f.At) := by
  unfold hitsB
  rw [if_neg (by omega), if_pos hk, Sp.link2 h k]
  simp

theorem Sp.not_both {x : Sp} (h : x.Ok) (hk : x.f.K = 2) (a b : Int) (h1 : hitsB x.c x.f (x.nd a) (x.nd (a + 1)) = true) : hitsB x.c x.f (x.nd b) (x.nd (b + 1 + 1)) = false := by
  rw [Sp.hit1 h hk] at h1
  rw [Sp.hit2 h hk]
  have i1 := x.nd_in h a
  have i2 := x.nd_in h (a + 1)
  have i3 := x.nd_in h b
  have i4 := x.nd_in h (b + 1 + 1)
  rw [beq_iff_eq] at h1
  rw [beq_eq_false_iff_ne]
  split at h1 <;> split <;> omega

/-- Two near links are two. -/
theorem Sp.not_two {x : Sp} (h : x.Ok) (hk : x.f.K = 2) (a b : Int) (hab : a < b) (hn : b - a < x.c.N) (h1 : hitsB x.c x.f (x.nd a) (x.nd (a + 1)) = true) : hitsB x.c x.f (x.nd b) (x.nd (b + 1)) = false := by
  rw [Sp.hit1 h hk] at h1 ⊢
  rw [beq_iff_eq] at h1
  rw [beq_eq_false_iff_ne, ← h1]
  split
  · exact (Sp.nd_ne h a b hab hn).symm
  · exact (Sp.nd_ne h (a + 1) (b + 1) (by omega) (by omega)).symm

end Plait

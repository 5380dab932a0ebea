/-
  plaitinglaw9: within, known; a case as it lies in memory; its Run, its right.
-/
import Derived.Test.YthhmedlefahccaaGreatDoorK14
import Derived.Test.YthhmedlefahccaaGreatDoorK7
import Derived.Test.YthhmedlefahccaaGreatDoorK11
import Derived.Test.YthhmedlefahccaaGreatDoorK3
import Derived.Test.YthhmedlefahccaaGreatDoorK12
import Derived.Test.YthhmedlefahccaaGreatDoorK9
namespace Go.Proofs.YthhmedlefahccaaGreatDoor
open Go.RowKit Plait
set_option maxRecDepth 100000
set_option linter.unusedVariables false
set_option linter.unusedSimpArgs false

theorem within9_any (a n : Int) (w : World) (hn : 0 < n) (hn2 : n ≤ 1099511627776) :
    Calls Tryz.prog 21 #[.int .i64 a, .int .i64 n] w fun e w' => e = .returned (.int .i64 (a % n)) ∧ w = w' := by
  have b1 : 0 ≤ a % n := Int.emod_nonneg _ (by omega)
  have b2 : a % n < n := Int.emod_lt_of_pos _ hn
  by_cases h0 : 0 ≤ a
  · go_enter Tryz.func21, Tryz.ntmps21
    go_wp2
    go_ret
    exact ⟨rfl, rfl⟩
  · have h1 : a.tmod n = -((-a) % n) := by
      rw [show a = -(-a) by omega, Int.neg_tmod, Int.tmod_eq_emod_of_nonneg (by omega)]; simp
    have c1 : 0 ≤ (-a) % n := Int.emod_nonneg _ (by omega)
    have c2 : (-a) % n < n := Int.emod_lt_of_pos _ hn
    by_cases hz : (-a) % n = 0
    · have h2 : a.tmod n = 0 := by rw [h1, hz]; rfl
      have HF := Lib.hid (show (0 : Int) = a % n by
        have : n ∣ -a := Int.dvd_of_emod_eq_zero hz
        exact (Int.emod_eq_zero_of_dvd (Int.dvd_neg.1 this)).symm)
      clear h1 hz c1 c2 b1 b2
      go_enter Tryz.func21, Tryz.ntmps21
      go_wp2
      go_ret
      exact ⟨ret_int HF.out, rfl⟩
    · obtain ⟨r, hr⟩ : ∃ r, r = (-a) % n := ⟨_, rfl⟩
      rw [← hr] at h1 c1 c2 hz
      have HF := Lib.hid (show -r + n = a % n by
        have e := Int.emod_add_mul_ediv (-a) n
        rw [← hr] at e
        have e2 : a = (-r + n) + n * (-((-a) / n) - 1) := by rw [Int.mul_sub, Int.mul_neg]; omega
        rw [e2, Int.add_mul_emod_self_left]
        exact (Int.emod_eq_of_lt (by omega) (by omega)).symm)
      clear hr b1 b2
      go_enter Tryz.func21, Tryz.ntmps21
      go_wp2
      go_ret
      exact ⟨ret_int HF.out, rfl⟩

/-- A row of sides that a call made. -/
def sdF (B : Nat) (t : TypeId) (n : Nat) (g : Nat → Sd) : Fact := fun v Z W => ∃ b M, v = .slice (some ⟨b, 0, none⟩) n n ∧ Blk W b t M ∧ SdM M n g ∧ (b < B ∨ Z b)
theorem sdF_good (B : Nat) (t : TypeId) (n : Nat) (g : Nat → Sd) : Good B (sdF B t n g) := fun v Z W W' ⟨b, M, e, hr, hm, hf⟩ hA => ⟨b, M, e, hr.agree hf hA, hm, hf⟩

/-- A slice of texts, out of its block. -/
theorem RowS.blk {w : World} {b : Nat} {t : TypeId} {cs : Array Value} (ls : List (List UInt8)) (h : Blk w b t cs) (he : cs = (ls.map fun l : List UInt8 => Value.string ⟨l.toArray⟩).toArray) (hl : ls.length ≤ 9223372036854775807) : RowS w (some ⟨b, 0, none⟩) ls := by
  subst he
  refine ⟨hl, .inr ⟨b, 0, rfl, h.lt, fun i hi => ?_⟩⟩
  rw [h.at]
  simp [hi]
theorem Row.blk {w : World} {b : Nat} {t : TypeId} {cs : Array Value} (zs : List Int) (h : Blk w b t cs) (he : cs = (zs.map (Value.int .i64)).toArray) (hl : zs.length ≤ 9223372036854775807) (hz : ∀ z ∈ zs, -9223372036854775808 ≤ z ∧ z ≤ 9223372036854775807) : Row w (some ⟨b, 0, none⟩) zs := by
  subst he
  refine ⟨hl, hz, .inr ⟨b, 0, rfl, h.lt, fun i hi => ?_⟩⟩
  rw [h.at]
  simp [hi]

theorem make_six : ∀ W : World, (Instr.makeSlice 22 (.int .i64 6) (.int .i64 6)).run Tryz.prog W = .ok (.slice (some ⟨W.heap.size, 0, none⟩) 6 6) (W.alloc (.cells #[.int .i64 0, .int .i64 0, .int .i64 0, .int .i64 0, .int .i64 0, .int .i64 0] 3)) := by
  intro W
  obtain ⟨i0, hi, hz0, hz1, hz2⟩ := info_parts infoInt
  have h := run_make (P := Tryz.prog) W 22 3 i0 _ Tryz.underlying22 hi hz0 .i64 .i64 6 6 (by omega) (by omega) (by rw [hz2]; omega) (by omega)
  rw [hz1, show madeCells (Value.int IntKind.i64 0).cells (Int.toNat 6 * 1) = #[.int .i64 0, .int .i64 0, .int .i64 0, .int .i64 0, .int .i64 0, .int .i64 0] by kernel_rfl] at h
  exact h

def f9 : Fa := ⟨0, 0, 0, 0, [], []⟩
def z6 : List Int := [0, 0, 0, 0, 0, 0]
def a6 : List Int := [4, 4, 4, 4, 4, 4]
/-- What known's two runs answer. -/
def k9 (st : List Int) : Nat → Sd := (runG c0 f9 0 0 1 [[48, 49, 35]] st z6 (wayR c0.N (owners c0 0) 1) (wayR c0.N (owners c0 0) 1).length).1
theorem k9_z : (k9 z6 0).O = [48, 49, 35] ∧ (k9 z6 1).O = [] := by decide +kernel
theorem k9_a : (k9 a6 5).O = [48, 49, 35] ∧ (k9 a6 5).F = 5 := by decide +kernel

theorem krun (st : List Int) (hst : st = z6 ∨ st = a6) (sa ta va : Option Addr) (sc tc vc : Nat) (w : World) (hbd : Bnds w) (hS : RowS w sa [[48, 49, 35]]) (hT : Row w ta st) (hV : Row w va z6) :
    Calls Tryz.prog 39 #[.agg #[.int .i64 6, .int .i64 4, .int .i64 0, .int .i64 0, .int .i64 0, .slice none 0 0], .agg #[.int .i64 0, .int .i64 0, .int .i64 0, .int .i64 0, .slice none 0 0, .slice none 0 0], .int .i64 0, .int .i64 0, .int .i64 1, .slice sa 1 sc, .slice ta 6 tc, .slice va 6 vc] w
      (SideRet 53 6 (k9 st) w) := by
  have hl : st.length = 6 := by rcases hst with rfl | rfl <;> rfl
  have := wRun_any c0 none 0 f9 none 0 none 0 0 0 1 sa [[48, 49, 35]] sc ta st tc va z6 vc w hbd c0_ok (Row.empty _ _) (RowA.empty _ _) (by decide) (by intro x hx; cases hx) (by omega) (by omega) (by omega) (by decide) (.inl rfl) hS (by decide) (by decide) (by decide) hT (by rw [hl]; rfl) hV (by decide)
  rw [hl] at this
  exact this

set_option maxHeartbeats 1600000 in
theorem known9_any (w : World) (hbd : Bnds w) : Calls Tryz.prog 15 #[] w fun e w' => e = .returned (.bool true) ∧ Below w.heap.size w w' := by
  have mk6 := make_six
  have hbl := hbd.lt
  have HR1 := Lib.hid (krun z6 (.inl rfl))
  have HR2 := Lib.hid (krun a6 (.inr rfl))
  have HZ := Lib.hid k9_z
  have HA := Lib.hid k9_a
  have HB := Lib.hid hbd
  clear hbd
  generalize k9 z6 = g1 at *
  generalize k9 a6 = g2 at *
  have hB : Below w.heap.size w (w.alloc (.cells #[.int .i64 6, .int .i64 4, .int .i64 0, .int .i64 0, .int .i64 0, .slice none 0 0] 24)) := alloc_below w _
  have hC : Blk (w.alloc (.cells #[.int .i64 6, .int .i64 4, .int .i64 0, .int .i64 0, .int .i64 0, .slice none 0 0] 24)) w.heap.size 24 #[.int .i64 6, .int .i64 4, .int .i64 0, .int .i64 0, .int .i64 0, .slice none 0 0] := Blk.new w _ _
  go_enter Tryz.func15, Tryz.ntmps15
  go_upto_region 2 with fail
  generalize w.alloc (.cells #[.int .i64 6, .int .i64 4, .int .i64 0, .int .i64 0, .int .i64 0, .slice none 0 0] 24) = w1 at *
  refine region_slots [some 5, some 6, some 7, some 8, some 9, some 10, some 2] [none, none, none, none, none, none, none] 53 7 rfl (by kernel_rfl) (by kernel_rfl) rfl rfl ?_
  apply step_fix
  · intro a W Zs hS hFm hz hd
    have h1 := hFm.old 1 rfl
    conv at h1 => rhs; whnf
    replace h1 := ev_get hFm.size h1
    have hq := (hC.drew1.later hS).at
    refine .inl ⟨wanted_none rfl _, fun K hK => ?_⟩
    have HK := Lib.hid hK
    clear hd hFm hK
    go_simp
    exact HK.out _ _ rfl (Below.refl _ _)
  simp only [List.nil_append, List.cons_append]
  apply step_fix
  · intro a W Zs hS hFm hz hd
    refine .inl ⟨wanted_none rfl _, fun K hK => ?_⟩
    have HK := Lib.hid hK
    clear hd hFm hK
    go_simp
    exact HK.out _ _ rfl (Below.refl _ _)
  simp only [List.nil_append, List.cons_append]
  apply step_blk
  · intro a W Zs hS hFm hz hd
    refine .inl ⟨wanted_none rfl _, fun K hK => ?_⟩
    have HK := Lib.hid hK
    clear hd hFm hK
    go_simp
    exact HK.out _ _ ⟨_, rfl, Blk.new _ _ _, .inr (.inl ⟨Nat.le_refl _, by simp⟩)⟩ (alloc_below _ _)
  simp only [List.nil_append, List.cons_append]
  apply step_blk
  · intro a W Zs hS hFm hz hd
    refine .inl ⟨wanted_none rfl _, fun K hK => ?_⟩
    have HK := Lib.hid hK
    clear hd hFm hK
    go_simp
    exact HK.out _ _ ⟨_, rfl, Blk.new _ _ _, .inr (.inl ⟨Nat.le_refl _, by simp⟩)⟩ (alloc_below _ _)
  simp only [List.nil_append, List.cons_append]
  apply step_blk
  · intro a W Zs hS hFm hz hd
    refine .inl ⟨wanted_none rfl _, fun K hK => ?_⟩
    have HK := Lib.hid hK
    clear hd hFm hK
    go_simp
    exact HK.out _ _ ⟨_, rfl, Blk.new _ _ _, .inr (.inl ⟨Nat.le_refl _, by simp⟩)⟩ (alloc_below _ _)
  simp only [List.nil_append, List.cons_append]
  refine step_of (sdF _ (53) 6 ((g1))) (sdF_good _ _ _ _) ?_ ?_
  · intro a W Zs hS hFm hz hd
    have h5 := ev_get hFm.size (hd 0 5 rfl rfl)
    have h6 := ev_get hFm.size (hd 1 6 rfl rfl)
    obtain ⟨b7, e7, q7, f7⟩ := hd 2 7 rfl rfl
    have h7 := ev_get hFm.size e7
    obtain ⟨b8, e8, q8, f8⟩ := hd 3 8 rfl rfl
    have h8 := ev_get hFm.size e8
    obtain ⟨b9, e9, q9, f9⟩ := hd 4 9 rfl rfl
    have h9 := ev_get hFm.size e9
    refine .inl ⟨wanted_none rfl _, fun K hK => ?_⟩
    have HK := Lib.hid hK
    clear hd hFm hK
    go_simp
    refine (HR1.out _ _ _ _ _ _ _ (HB.out.later (hB.drew.trans (hS.mono hB.drew.size))) (RowS.blk _ q7 rfl (by decide)) (Row.blk z6 q8 rfl (by decide) (by decide)) (Row.blk z6 q9 rfl (by decide) (by decide))).mono ?_
    rintro e W' ⟨rb, rM, rfl, hrb, hrk, hrm, hb⟩
    exact HK.out _ _ ⟨rb, rM, rfl, hrk, hrm, .inr (.inl ⟨hrb, hrk.lt⟩)⟩ hb
  simp only [List.nil_append, List.cons_append]
  refine step_of (sdF _ (53) 6 ((g1))) (sdF_good _ _ _ _) ?_ ?_
  · intro a W Zs hS hFm hz hd
    obtain ⟨b10, M10, e10, q10, m10, f10⟩ := hd 5 10 rfl rfl
    have h10 := ev_get hFm.size e10
    refine .inl ⟨wanted_none rfl _, fun K hK => ?_⟩
    have HK := Lib.hid hK
    clear hd hFm hK
    go_simp
    exact HK.out _ _ ⟨b10, M10, rfl, q10, m10, f10.imp id (foot_dep 5 rfl rfl rfl _)⟩ (Below.refl _ _)
  simp only [List.nil_append, List.cons_append]
  intro a w2 Zs hS hFm hz hd
  obtain ⟨b2, M2, e2, q2, m2, f2⟩ := hd 6 2 (by decide) rfl
  have e0 := hFm.old 0 rfl
  conv at e0 => rhs; whnf
  have e1 := hFm.old 1 rfl
  conv at e1 => rhs; whnf
  have e3 := hFm.old 3 rfl
  conv at e3 => rhs; whnf
  have e4 := hFm.old 4 rfl
  conv at e4 => rhs; whnf
  have e11 := hFm.old 11 rfl
  conv at e11 => rhs; whnf
  have e12 := hFm.old 12 rfl
  conv at e12 => rhs; whnf
  have e13 := hFm.old 13 rfl
  conv at e13 => rhs; whnf
  have e14 := hFm.old 14 rfl
  conv at e14 => rhs; whnf
  have e15 := hFm.old 15 rfl
  conv at e15 => rhs; whnf
  have e16 := hFm.old 16 rfl
  conv at e16 => rhs; whnf
  have e17 := hFm.old 17 rfl
  conv at e17 => rhs; whnf
  have e18 := hFm.old 18 rfl
  conv at e18 => rhs; whnf
  have e19 := hFm.old 19 rfl
  conv at e19 => rhs; whnf
  have e20 := hFm.old 20 rfl
  conv at e20 => rhs; whnf
  have e21 := hFm.old 21 rfl
  conv at e21 => rhs; whnf
  have e22 := hFm.old 22 rfl
  conv at e22 => rhs; whnf
  have e23 := hFm.old 23 rfl
  conv at e23 => rhs; whnf
  have e24 := hFm.old 24 rfl
  conv at e24 => rhs; whnf
  have e25 := hFm.old 25 rfl
  conv at e25 => rhs; whnf
  have e26 := hFm.old 26 rfl
  conv at e26 => rhs; whnf
  have e27 := hFm.old 27 rfl
  conv at e27 => rhs; whnf
  have e28 := hFm.old 28 rfl
  conv at e28 => rhs; whnf
  have e29 := hFm.old 29 rfl
  conv at e29 => rhs; whnf
  have e30 := hFm.old 30 rfl
  conv at e30 => rhs; whnf
  have e31 := hFm.old 31 rfl
  conv at e31 => rhs; whnf
  have e32 := hFm.old 32 rfl
  conv at e32 => rhs; whnf
  have e33 := hFm.old 33 rfl
  conv at e33 => rhs; whnf
  have e34 := hFm.old 34 rfl
  conv at e34 => rhs; whnf
  have e35 := hFm.old 35 rfl
  conv at e35 => rhs; whnf
  have e36 := hFm.old 36 rfl
  conv at e36 => rhs; whnf
  have e37 := hFm.old 37 rfl
  conv at e37 => rhs; whnf
  have e38 := hFm.old 38 rfl
  conv at e38 => rhs; whnf
  have e39 := hFm.old 39 rfl
  conv at e39 => rhs; whnf
  have e40 := hFm.old 40 rfl
  conv at e40 => rhs; whnf
  have e41 := hFm.old 41 rfl
  conv at e41 => rhs; whnf
  have e42 := hFm.old 42 rfl
  conv at e42 => rhs; whnf
  have e43 := hFm.old 43 rfl
  conv at e43 => rhs; whnf
  have e44 := hFm.old 44 rfl
  conv at e44 => rhs; whnf
  have e45 := hFm.old 45 rfl
  conv at e45 => rhs; whnf
  have e46 := hFm.old 46 rfl
  conv at e46 => rhs; whnf
  have e47 := hFm.old 47 rfl
  conv at e47 => rhs; whnf
  have e48 := hFm.old 48 rfl
  conv at e48 => rhs; whnf
  have e49 := hFm.old 49 rfl
  conv at e49 => rhs; whnf
  have e50 := hFm.old 50 rfl
  conv at e50 => rhs; whnf
  have e51 := hFm.old 51 rfl
  conv at e51 => rhs; whnf
  have e52 := hFm.old 52 rfl
  conv at e52 => rhs; whnf
  have hsz := hFm.size
  have hdf := hFm.defers
  clear hd hFm
  obtain ⟨t, df⟩ := a
  simp only at hsz hdf
  subst hdf
  obtain ⟨x, hx⟩ : ∃ x : Nat → Value, ∀ i, t.getD i undef = x i := ⟨fun i => t.getD i undef, fun _ => rfl⟩
  have h2 := (hx 2).symm.trans e2
  have h0 := (hx 0).symm.trans e0
  have h1 := (hx 1).symm.trans e1
  have h3 := (hx 3).symm.trans e3
  have h4 := (hx 4).symm.trans e4
  have h11 := (hx 11).symm.trans e11
  have h12 := (hx 12).symm.trans e12
  have h13 := (hx 13).symm.trans e13
  have h14 := (hx 14).symm.trans e14
  have h15 := (hx 15).symm.trans e15
  have h16 := (hx 16).symm.trans e16
  have h17 := (hx 17).symm.trans e17
  have h18 := (hx 18).symm.trans e18
  have h19 := (hx 19).symm.trans e19
  have h20 := (hx 20).symm.trans e20
  have h21 := (hx 21).symm.trans e21
  have h22 := (hx 22).symm.trans e22
  have h23 := (hx 23).symm.trans e23
  have h24 := (hx 24).symm.trans e24
  have h25 := (hx 25).symm.trans e25
  have h26 := (hx 26).symm.trans e26
  have h27 := (hx 27).symm.trans e27
  have h28 := (hx 28).symm.trans e28
  have h29 := (hx 29).symm.trans e29
  have h30 := (hx 30).symm.trans e30
  have h31 := (hx 31).symm.trans e31
  have h32 := (hx 32).symm.trans e32
  have h33 := (hx 33).symm.trans e33
  have h34 := (hx 34).symm.trans e34
  have h35 := (hx 35).symm.trans e35
  have h36 := (hx 36).symm.trans e36
  have h37 := (hx 37).symm.trans e37
  have h38 := (hx 38).symm.trans e38
  have h39 := (hx 39).symm.trans e39
  have h40 := (hx 40).symm.trans e40
  have h41 := (hx 41).symm.trans e41
  have h42 := (hx 42).symm.trans e42
  have h43 := (hx 43).symm.trans e43
  have h44 := (hx 44).symm.trans e44
  have h45 := (hx 45).symm.trans e45
  have h46 := (hx 46).symm.trans e46
  have h47 := (hx 47).symm.trans e47
  have h48 := (hx 48).symm.trans e48
  have h49 := (hx 49).symm.trans e49
  have h50 := (hx 50).symm.trans e50
  have h51 := (hx 51).symm.trans e51
  have h52 := (hx 52).symm.trans e52
  have ht' : t = #[x 0, x 1, x 2, x 3, x 4, x 5, x 6, x 7, x 8, x 9, x 10, x 11, x 12, x 13, x 14, x 15, x 16, x 17, x 18, x 19, x 20, x 21, x 22, x 23, x 24, x 25, x 26, x 27, x 28, x 29, x 30, x 31, x 32, x 33, x 34, x 35, x 36, x 37, x 38, x 39, x 40, x 41, x 42, x 43, x 44, x 45, x 46, x 47, x 48, x 49, x 50, x 51, x 52] := frame_lit t 53 hsz x hx
  clear hx hsz hz e2 e0 e1 e3 e4 e11 e12 e13 e14 e15 e16 e17 e18 e19 e20 e21 e22 e23 e24 e25 e26 e27 e28 e29 e30 e31 e32 e33 e34 e35 e36 e37 e38 e39 e40 e41 e42 e43 e44 e45 e46 e47 e48 e49 e50 e51 e52
  subst ht'
  (try dsimp only)
  rw [h2, h0, h1, h3, h4, h11, h12, h13, h14, h15, h16, h17, h18, h19, h20, h21, h22, h23, h24, h25, h26, h27, h28, h29, h30, h31, h32, h33, h34, h35, h36, h37, h38, h39, h40, h41, h42, h43, h44, h45, h46, h47, h48, h49, h50, h51, h52]
  clear h2 h0 h1 h3 h4 h11 h12 h13 h14 h15 h16 h17 h18 h19 h20 h21 h22 h23 h24 h25 h26 h27 h28 h29 h30 h31 h32 h33 h34 h35 h36 h37 h38 h39 h40 h41 h42 h43 h44 h45 h46 h47 h48 h49 h50 h51 h52
  rw [undef_fold]
  have hb := from_drew hS
  replace hB := hB.trans (hb.mono hB.size)
  replace hC := hC.later hb
  clear hS hb f2 HR1
  go_upto_region 3 with fail
  refine region_slots [some 11, some 12, some 13, some 14, some 15, some 16, some 3] [none, none, none, none, none, none, none] 53 7 rfl (by kernel_rfl) (by kernel_rfl) rfl rfl ?_
  apply step_fix
  · intro a W Zs hS hFm hz hd
    have h1 := hFm.old 1 rfl
    conv at h1 => rhs; whnf
    replace h1 := ev_get hFm.size h1
    have hq := (hC.drew1.later hS).at
    refine .inl ⟨wanted_none rfl _, fun K hK => ?_⟩
    have HK := Lib.hid hK
    clear hd hFm hK
    go_simp
    exact HK.out _ _ rfl (Below.refl _ _)
  simp only [List.nil_append, List.cons_append]
  apply step_fix
  · intro a W Zs hS hFm hz hd
    refine .inl ⟨wanted_none rfl _, fun K hK => ?_⟩
    have HK := Lib.hid hK
    clear hd hFm hK
    go_simp
    exact HK.out _ _ rfl (Below.refl _ _)
  simp only [List.nil_append, List.cons_append]
  apply step_blk
  · intro a W Zs hS hFm hz hd
    refine .inl ⟨wanted_none rfl _, fun K hK => ?_⟩
    have HK := Lib.hid hK
    clear hd hFm hK
    go_simp
    exact HK.out _ _ ⟨_, rfl, Blk.new _ _ _, .inr (.inl ⟨Nat.le_refl _, by simp⟩)⟩ (alloc_below _ _)
  simp only [List.nil_append, List.cons_append]
  apply step_blk
  · intro a W Zs hS hFm hz hd
    refine .inl ⟨wanted_none rfl _, fun K hK => ?_⟩
    have HK := Lib.hid hK
    clear hd hFm hK
    go_simp
    exact HK.out _ _ ⟨_, rfl, Blk.new _ _ _, .inr (.inl ⟨Nat.le_refl _, by simp⟩)⟩ (alloc_below _ _)
  simp only [List.nil_append, List.cons_append]
  apply step_blk
  · intro a W Zs hS hFm hz hd
    refine .inl ⟨wanted_none rfl _, fun K hK => ?_⟩
    have HK := Lib.hid hK
    clear hd hFm hK
    go_simp
    exact HK.out _ _ ⟨_, rfl, Blk.new _ _ _, .inr (.inl ⟨Nat.le_refl _, by simp⟩)⟩ (alloc_below _ _)
  simp only [List.nil_append, List.cons_append]
  refine step_of (sdF _ (53) 6 ((g2))) (sdF_good _ _ _ _) ?_ ?_
  · intro a W Zs hS hFm hz hd
    have h11 := ev_get hFm.size (hd 0 11 rfl rfl)
    have h12 := ev_get hFm.size (hd 1 12 rfl rfl)
    obtain ⟨b13, e13, q13, f13⟩ := hd 2 13 rfl rfl
    have h13 := ev_get hFm.size e13
    obtain ⟨b14, e14, q14, f14⟩ := hd 3 14 rfl rfl
    have h14 := ev_get hFm.size e14
    obtain ⟨b15, e15, q15, f15⟩ := hd 4 15 rfl rfl
    have h15 := ev_get hFm.size e15
    refine .inl ⟨wanted_none rfl _, fun K hK => ?_⟩
    have HK := Lib.hid hK
    clear hd hFm hK
    go_simp
    refine (HR2.out _ _ _ _ _ _ _ (HB.out.later (hB.drew.trans (hS.mono hB.drew.size))) (RowS.blk _ q13 rfl (by decide)) (Row.blk a6 q14 rfl (by decide) (by decide)) (Row.blk z6 q15 rfl (by decide) (by decide))).mono ?_
    rintro e W' ⟨rb, rM, rfl, hrb, hrk, hrm, hb⟩
    exact HK.out _ _ ⟨rb, rM, rfl, hrk, hrm, .inr (.inl ⟨hrb, hrk.lt⟩)⟩ hb
  simp only [List.nil_append, List.cons_append]
  refine step_of (sdF _ (53) 6 ((g2))) (sdF_good _ _ _ _) ?_ ?_
  · intro a W Zs hS hFm hz hd
    obtain ⟨b16, M16, e16, q16, m16, f16⟩ := hd 5 16 rfl rfl
    have h16 := ev_get hFm.size e16
    refine .inl ⟨wanted_none rfl _, fun K hK => ?_⟩
    have HK := Lib.hid hK
    clear hd hFm hK
    go_simp
    exact HK.out _ _ ⟨b16, M16, rfl, q16, m16, f16.imp id (foot_dep 5 rfl rfl rfl _)⟩ (Below.refl _ _)
  simp only [List.nil_append, List.cons_append]
  intro a w3 Zs hS hFm hz hd
  obtain ⟨b3, M3, e3, q3, m3, f3⟩ := hd 6 3 (by decide) rfl
  have e0 := hFm.old 0 rfl
  conv at e0 => rhs; whnf
  have e1 := hFm.old 1 rfl
  conv at e1 => rhs; whnf
  have e2 := hFm.old 2 rfl
  conv at e2 => rhs; whnf
  have e4 := hFm.old 4 rfl
  conv at e4 => rhs; whnf
  have e5 := hFm.old 5 rfl
  conv at e5 => rhs; whnf
  have e6 := hFm.old 6 rfl
  conv at e6 => rhs; whnf
  have e7 := hFm.old 7 rfl
  conv at e7 => rhs; whnf
  have e8 := hFm.old 8 rfl
  conv at e8 => rhs; whnf
  have e9 := hFm.old 9 rfl
  conv at e9 => rhs; whnf
  have e10 := hFm.old 10 rfl
  conv at e10 => rhs; whnf
  have e17 := hFm.old 17 rfl
  conv at e17 => rhs; whnf
  have e18 := hFm.old 18 rfl
  conv at e18 => rhs; whnf
  have e19 := hFm.old 19 rfl
  conv at e19 => rhs; whnf
  have e20 := hFm.old 20 rfl
  conv at e20 => rhs; whnf
  have e21 := hFm.old 21 rfl
  conv at e21 => rhs; whnf
  have e22 := hFm.old 22 rfl
  conv at e22 => rhs; whnf
  have e23 := hFm.old 23 rfl
  conv at e23 => rhs; whnf
  have e24 := hFm.old 24 rfl
  conv at e24 => rhs; whnf
  have e25 := hFm.old 25 rfl
  conv at e25 => rhs; whnf
  have e26 := hFm.old 26 rfl
  conv at e26 => rhs; whnf
  have e27 := hFm.old 27 rfl
  conv at e27 => rhs; whnf
  have e28 := hFm.old 28 rfl
  conv at e28 => rhs; whnf
  have e29 := hFm.old 29 rfl
  conv at e29 => rhs; whnf
  have e30 := hFm.old 30 rfl
  conv at e30 => rhs; whnf
  have e31 := hFm.old 31 rfl
  conv at e31 => rhs; whnf
  have e32 := hFm.old 32 rfl
  conv at e32 => rhs; whnf
  have e33 := hFm.old 33 rfl
  conv at e33 => rhs; whnf
  have e34 := hFm.old 34 rfl
  conv at e34 => rhs; whnf
  have e35 := hFm.old 35 rfl
  conv at e35 => rhs; whnf
  have e36 := hFm.old 36 rfl
  conv at e36 => rhs; whnf
  have e37 := hFm.old 37 rfl
  conv at e37 => rhs; whnf
  have e38 := hFm.old 38 rfl
  conv at e38 => rhs; whnf
  have e39 := hFm.old 39 rfl
  conv at e39 => rhs; whnf
  have e40 := hFm.old 40 rfl
  conv at e40 => rhs; whnf
  have e41 := hFm.old 41 rfl
  conv at e41 => rhs; whnf
  have e42 := hFm.old 42 rfl
  conv at e42 => rhs; whnf
  have e43 := hFm.old 43 rfl
  conv at e43 => rhs; whnf
  have e44 := hFm.old 44 rfl
  conv at e44 => rhs; whnf
  have e45 := hFm.old 45 rfl
  conv at e45 => rhs; whnf
  have e46 := hFm.old 46 rfl
  conv at e46 => rhs; whnf
  have e47 := hFm.old 47 rfl
  conv at e47 => rhs; whnf
  have e48 := hFm.old 48 rfl
  conv at e48 => rhs; whnf
  have e49 := hFm.old 49 rfl
  conv at e49 => rhs; whnf
  have e50 := hFm.old 50 rfl
  conv at e50 => rhs; whnf
  have e51 := hFm.old 51 rfl
  conv at e51 => rhs; whnf
  have e52 := hFm.old 52 rfl
  conv at e52 => rhs; whnf
  have hsz := hFm.size
  have hdf := hFm.defers
  clear hd hFm
  obtain ⟨t, df⟩ := a
  simp only at hsz hdf
  subst hdf
  obtain ⟨x, hx⟩ : ∃ x : Nat → Value, ∀ i, t.getD i undef = x i := ⟨fun i => t.getD i undef, fun _ => rfl⟩
  have h3 := (hx 3).symm.trans e3
  have h0 := (hx 0).symm.trans e0
  have h1 := (hx 1).symm.trans e1
  have h2 := (hx 2).symm.trans e2
  have h4 := (hx 4).symm.trans e4
  have h5 := (hx 5).symm.trans e5
  have h6 := (hx 6).symm.trans e6
  have h7 := (hx 7).symm.trans e7
  have h8 := (hx 8).symm.trans e8
  have h9 := (hx 9).symm.trans e9
  have h10 := (hx 10).symm.trans e10
  have h17 := (hx 17).symm.trans e17
  have h18 := (hx 18).symm.trans e18
  have h19 := (hx 19).symm.trans e19
  have h20 := (hx 20).symm.trans e20
  have h21 := (hx 21).symm.trans e21
  have h22 := (hx 22).symm.trans e22
  have h23 := (hx 23).symm.trans e23
  have h24 := (hx 24).symm.trans e24
  have h25 := (hx 25).symm.trans e25
  have h26 := (hx 26).symm.trans e26
  have h27 := (hx 27).symm.trans e27
  have h28 := (hx 28).symm.trans e28
  have h29 := (hx 29).symm.trans e29
  have h30 := (hx 30).symm.trans e30
  have h31 := (hx 31).symm.trans e31
  have h32 := (hx 32).symm.trans e32
  have h33 := (hx 33).symm.trans e33
  have h34 := (hx 34).symm.trans e34
  have h35 := (hx 35).symm.trans e35
  have h36 := (hx 36).symm.trans e36
  have h37 := (hx 37).symm.trans e37
  have h38 := (hx 38).symm.trans e38
  have h39 := (hx 39).symm.trans e39
  have h40 := (hx 40).symm.trans e40
  have h41 := (hx 41).symm.trans e41
  have h42 := (hx 42).symm.trans e42
  have h43 := (hx 43).symm.trans e43
  have h44 := (hx 44).symm.trans e44
  have h45 := (hx 45).symm.trans e45
  have h46 := (hx 46).symm.trans e46
  have h47 := (hx 47).symm.trans e47
  have h48 := (hx 48).symm.trans e48
  have h49 := (hx 49).symm.trans e49
  have h50 := (hx 50).symm.trans e50
  have h51 := (hx 51).symm.trans e51
  have h52 := (hx 52).symm.trans e52
  have ht' : t = #[x 0, x 1, x 2, x 3, x 4, x 5, x 6, x 7, x 8, x 9, x 10, x 11, x 12, x 13, x 14, x 15, x 16, x 17, x 18, x 19, x 20, x 21, x 22, x 23, x 24, x 25, x 26, x 27, x 28, x 29, x 30, x 31, x 32, x 33, x 34, x 35, x 36, x 37, x 38, x 39, x 40, x 41, x 42, x 43, x 44, x 45, x 46, x 47, x 48, x 49, x 50, x 51, x 52] := frame_lit t 53 hsz x hx
  clear hx hsz hz e3 e0 e1 e2 e4 e5 e6 e7 e8 e9 e10 e17 e18 e19 e20 e21 e22 e23 e24 e25 e26 e27 e28 e29 e30 e31 e32 e33 e34 e35 e36 e37 e38 e39 e40 e41 e42 e43 e44 e45 e46 e47 e48 e49 e50 e51 e52
  subst ht'
  (try dsimp only)
  rw [h3, h0, h1, h2, h4, h5, h6, h7, h8, h9, h10, h17, h18, h19, h20, h21, h22, h23, h24, h25, h26, h27, h28, h29, h30, h31, h32, h33, h34, h35, h36, h37, h38, h39, h40, h41, h42, h43, h44, h45, h46, h47, h48, h49, h50, h51, h52]
  clear h3 h0 h1 h2 h4 h5 h6 h7 h8 h9 h10 h17 h18 h19 h20 h21 h22 h23 h24 h25 h26 h27 h28 h29 h30 h31 h32 h33 h34 h35 h36 h37 h38 h39 h40 h41 h42 h43 h44 h45 h46 h47 h48 h49 h50 h51 h52
  rw [undef_fold]
  have hb := from_drew hS
  replace hB := hB.trans (hb.mono hB.size)
  have q2' := q2.later hb
  clear hS hb f3 HR2 q2 hC mk6
  obtain ⟨y0, y1⟩ := HZ.out
  obtain ⟨y2, y3⟩ := HA.out
  have c0 := (m2.2 0 (by omega)).2.2.1
  have c1 := (m2.2 1 (by omega)).2.2.1
  have c2 := (m3.2 5 (by omega)).2.2.1
  have c3 := (m3.2 5 (by omega)).2.2.2
  rw [y0] at c0
  rw [y1] at c1
  rw [y2] at c2
  rw [y3] at c3
  have h2 := q2'.at
  have h3 := q3.at
  clear q2' q3 m2 m3 y0 y1 y2 y3 HZ HA HB
  go_wp2
  go_ret
  exact ⟨rfl, hB⟩

/-- A case: what it holds; where its rows lie. -/
structure Cs where
  c : Cf
  f : Fa
  r : Int
  s : Int
  d : Int
  sends : List (List UInt8)
  st : List Int
  dv : List Int
structure Ca where
  ca : Option Addr
  cc : Nat
  fa : Option Addr
  fac : Nat
  fd : Option Addr
  fdc : Nat
  sa : Option Addr
  sc : Nat
  ta : Option Addr
  tc : Nat
  va : Option Addr
  vc : Nat
def csBox (x : Cs) (a : Ca) : Array Value := #[.int .i64 x.c.N, .int .i64 x.c.Pi, .int .i64 x.c.E, .int .i64 x.c.G, .int .i64 x.c.F, .slice a.ca x.c.P.length a.cc, .int .i64 x.f.K, .int .i64 x.f.At, .int .i64 x.f.F, .int .i64 x.f.To, .slice a.fa x.f.A.length a.fac, .slice a.fd x.f.D.length a.fdc, .int .i64 x.r, .int .i64 x.s, .int .i64 x.d, .slice a.sa x.sends.length a.sc, .slice a.ta x.st.length a.tc, .slice a.va x.dv.length a.vc]
structure CsM (x : Cs) (a : Ca) (W : World) : Prop where
  P : Row W a.ca x.c.P
  A : RowA W a.fa x.f.A
  D : Row W a.fd x.f.D
  S : RowS W a.sa x.sends
  T : Row W a.ta x.st
  V : Row W a.va x.dv
theorem CsM.later {x : Cs} {a : Ca} {W W' : World} (h : CsM x a W) (hb : Below W.heap.size W W') : CsM x a W' := ⟨h.P.later hb, h.A.later hb, h.D.later hb, h.S.later hb, h.T.later hb, h.V.later hb⟩
/-- As it may be. -/
structure Cs.Ok (x : Cs) : Prop where
  c : x.c.Ok
  lA : x.f.A.length ≤ 1000000
  t : ∀ a ∈ x.f.A, a.T.length ≤ 2000
  r0 : 0 ≤ x.r
  r1 : x.r ≤ 1000000
  s0 : 0 ≤ x.s
  s1 : x.s < slotsI x.c
  d : x.d = 1 ∨ x.d = -1
  sl : x.sends.length = (owners x.c x.s).length
  sb : ∀ l ∈ x.sends, l.length ≤ 2000
  sk : ∀ l ∈ x.sends, clean l = l
  tl : (x.st.length : Int) = x.c.N
  vl : (x.dv.length : Int) = x.c.N
/-- What its run answers. -/
def Cs.end (x : Cs) : Nat → Sd := endG x.c x.f x.r x.s x.d x.sends x.st x.dv

set_option maxHeartbeats 800000 in
theorem crun_any (x : Cs) (a : Ca) (w : World) (hbd : Bnds w) (ok : x.Ok) (h : CsM x a w) :
    Calls Tryz.prog 19 #[.agg #[.int .i64 x.c.N, .int .i64 x.c.Pi, .int .i64 x.c.E, .int .i64 x.c.G, .int .i64 x.c.F, .slice a.ca x.c.P.length a.cc, .int .i64 x.f.K, .int .i64 x.f.At, .int .i64 x.f.F, .int .i64 x.f.To, .slice a.fa x.f.A.length a.fac, .slice a.fd x.f.D.length a.fdc, .int .i64 x.r, .int .i64 x.s, .int .i64 x.d, .slice a.sa x.sends.length a.sc, .slice a.ta x.st.length a.tc, .slice a.va x.dv.length a.vc]] w (SideRet 53 x.c.N.toNat x.end w) := by
  have hb := alloc_below w (.cells #[.int .i64 x.c.N, .int .i64 x.c.Pi, .int .i64 x.c.E, .int .i64 x.c.G, .int .i64 x.c.F, .slice a.ca x.c.P.length a.cc, .int .i64 x.f.K, .int .i64 x.f.At, .int .i64 x.f.F, .int .i64 x.f.To, .slice a.fa x.f.A.length a.fac, .slice a.fd x.f.D.length a.fdc, .int .i64 x.r, .int .i64 x.s, .int .i64 x.d, .slice a.sa x.sends.length a.sc, .slice a.ta x.st.length a.tc, .slice a.va x.dv.length a.vc] 37)
  have hX := Blk.new w 37 #[.int .i64 x.c.N, .int .i64 x.c.Pi, .int .i64 x.c.E, .int .i64 x.c.G, .int .i64 x.c.F, .slice a.ca x.c.P.length a.cc, .int .i64 x.f.K, .int .i64 x.f.At, .int .i64 x.f.F, .int .i64 x.f.To, .slice a.fa x.f.A.length a.fac, .slice a.fd x.f.D.length a.fdc, .int .i64 x.r, .int .i64 x.s, .int .i64 x.d, .slice a.sa x.sends.length a.sc, .slice a.ta x.st.length a.tc, .slice a.va x.dv.length a.vc]
  have h1 := h.later hb
  have HR := Lib.hid (wRun_any x.c a.ca a.cc x.f a.fa a.fac a.fd a.fdc x.r x.s x.d a.sa x.sends a.sc a.ta x.st a.tc a.va x.dv a.vc _ (hbd.later hb) ok.c h1.P h1.A ok.lA ok.t ok.r0 ok.r1 ok.s0 ok.s1 ok.d h1.S ok.sl ok.sb ok.sk h1.T ok.tl h1.V ok.vl)
  clear ok h h1
  go_enter Tryz.func19, Tryz.ntmps19
  go_upto_region 1 with fail
  have hq := hX.at
  go_wp2_with fail
  refine (HR.out).mono ?_
  rintro e wn ⟨b, M, rfl, hlo, q1, q2, hb2⟩
  go_wp2
  go_ret
  exact ⟨b, M, rfl, Nat.le_trans hb.size hlo, q1, q2, hb.trans (hb2.mono hb.size)⟩

theorem cright_any (x : Cs) (a : Ca) (i : Int) (w : World) (v : Bool) (hv : v = rightB x.f x.r i) :
    Calls Tryz.prog 24 #[.agg #[.int .i64 x.c.N, .int .i64 x.c.Pi, .int .i64 x.c.E, .int .i64 x.c.G, .int .i64 x.c.F, .slice a.ca x.c.P.length a.cc, .int .i64 x.f.K, .int .i64 x.f.At, .int .i64 x.f.F, .int .i64 x.f.To, .slice a.fa x.f.A.length a.fac, .slice a.fd x.f.D.length a.fdc, .int .i64 x.r, .int .i64 x.s, .int .i64 x.d, .slice a.sa x.sends.length a.sc, .slice a.ta x.st.length a.tc, .slice a.va x.dv.length a.vc], .int .i64 i] w fun e w' => e = .returned (.bool v) ∧ Below w.heap.size w w' := by
  have hb := alloc_below w (.cells #[.int .i64 x.c.N, .int .i64 x.c.Pi, .int .i64 x.c.E, .int .i64 x.c.G, .int .i64 x.c.F, .slice a.ca x.c.P.length a.cc, .int .i64 x.f.K, .int .i64 x.f.At, .int .i64 x.f.F, .int .i64 x.f.To, .slice a.fa x.f.A.length a.fac, .slice a.fd x.f.D.length a.fdc, .int .i64 x.r, .int .i64 x.s, .int .i64 x.d, .slice a.sa x.sends.length a.sc, .slice a.ta x.st.length a.tc, .slice a.va x.dv.length a.vc] 37)
  have hX := Blk.new w 37 #[.int .i64 x.c.N, .int .i64 x.c.Pi, .int .i64 x.c.E, .int .i64 x.c.G, .int .i64 x.c.F, .slice a.ca x.c.P.length a.cc, .int .i64 x.f.K, .int .i64 x.f.At, .int .i64 x.f.F, .int .i64 x.f.To, .slice a.fa x.f.A.length a.fac, .slice a.fd x.f.D.length a.fdc, .int .i64 x.r, .int .i64 x.s, .int .i64 x.d, .slice a.sa x.sends.length a.sc, .slice a.ta x.st.length a.tc, .slice a.va x.dv.length a.vc]
  have hq := hX.at
  by_cases h1 : x.f.K = 1
  · by_cases h2 : x.f.At = i
    · have d1 : (x.f.K != 1) = false := by simp [h1]
      have d2 : (x.f.At != i) = false := by simp [h2]
      cases d3 : decide (x.f.To ≤ x.r)
      · have HE := Lib.hid (show v = false by rw [hv]; unfold rightB atB; rw [d3, h1, h2]; simp)
        clear hv h1 h2
        go_enter Tryz.func24, Tryz.ntmps24
        go_wp2
        go_ret
        exact ⟨ret_bool HE.out.symm, hb⟩
      · have HE := Lib.hid (show v = true by rw [hv]; unfold rightB atB; rw [d3]; rfl)
        clear hv h1 h2
        go_enter Tryz.func24, Tryz.ntmps24
        go_wp2
        go_ret
        exact ⟨ret_bool HE.out.symm, hb⟩
    · have d1 : (x.f.K != 1) = false := by simp [h1]
      have d2 : (x.f.At != i) = true := by simpa using h2
      have HE := Lib.hid (show v = true by rw [hv]; exact rightB_of (.inr (.inr h2)))
      clear hv h1 h2
      go_enter Tryz.func24, Tryz.ntmps24
      go_wp2
      go_ret
      exact ⟨ret_bool HE.out.symm, hb⟩
  · have d1 : (x.f.K != 1) = true := by simpa using h1
    have HE := Lib.hid (show v = true by rw [hv]; exact rightB_of (.inr (.inl h1)))
    clear hv h1
    go_enter Tryz.func24, Tryz.ntmps24
    go_wp2
    go_ret
    exact ⟨ret_bool HE.out.symm, hb⟩

end Go.Proofs.YthhmedlefahccaaGreatDoor
/-
  Contracts of package fault: whether a locus may be.
-/
namespace Go.Proofs.YthhmedlefahccaaGreatDoor
open Go.RowKit Plait
set_option maxRecDepth 100000
set_option linter.unusedVariables false

theorem any_step (A : List Ac) (k : Nat) (h : k < A.length) (ha : (A.take k).any longA = false) (e : longA A[k] = false) : (A.take (k + 1)).any longA = false := by
  rw [List.take_succ_eq_append_getElem h, List.any_append, ha]
  simp [e]
theorem any_yes (A : List Ac) (k : Nat) (h : k < A.length) (e : longA A[k] = true) : A.any longA = true := List.any_eq_true.2 ⟨A[k], List.getElem_mem h, e⟩
theorem any_end (A : List Ac) (k : Nat) (h : ¬ k < A.length) (ha : (A.take k).any longA = false) : A.any longA = false := by
  rw [List.take_of_length_le (by omega)] at ha
  exact ha

/-- The call of a locus' method exists, whatever the kind. -/
theorem place_of {c : Cf} {f : Fa} : (f.K = 0 → placeL c f = (f.At == 0)) ∧ (f.K = 1 → placeL c f = (decide (0 ≤ f.At) && decide (f.At < c.N))) ∧ (f.K = 2 → placeL c f = (decide (0 ≤ f.At) && decide (f.At < 2 * c.N))) := by
  refine ⟨fun h => ?_, fun h => ?_, fun h => ?_⟩
  · unfold placeL placesI
    rw [if_neg (by omega), if_neg (by omega)]
    by_cases h0 : f.At = 0
    · simp [h0]
    · have : ¬ (0 ≤ f.At ∧ f.At < 1) := by omega
      rw [Bool.eq_iff_iff]
      simp [h0]
      omega
  · unfold placeL placesI
    rw [if_pos h]
  · unfold placeL placesI
    rw [if_neg (by omega), if_pos h]

end Go.Proofs.YthhmedlefahccaaGreatDoor
/-
  Contracts of the laws' own helpers: within, Text, known.
-/
namespace Go.Proofs.YthhmedlefahccaaGreatDoor
open Go.RowKit Plait
set_option maxRecDepth 100000
set_option linter.unusedVariables false

theorem within_any (a n : Int) (w : World) (hn : 0 < n) (hn2 : n ≤ 1099511627776) :
    Calls Tryz.prog 52 #[.int .i64 a, .int .i64 n] w fun e w' => e = .returned (.int .i64 (a % n)) ∧ w = w' := by
  have b1 : 0 ≤ a % n := Int.emod_nonneg _ (by omega)
  have b2 : a % n < n := Int.emod_lt_of_pos _ hn
  by_cases h0 : 0 ≤ a
  · go_enter Tryz.func52, Tryz.ntmps52
    go_wp2
    go_ret
    exact ⟨rfl, rfl⟩
  · have h1 : a.tmod n = -((-a) % n) := by
      rw [show a = -(-a) by omega, Int.neg_tmod, Int.tmod_eq_emod_of_nonneg (by omega)]; simp
    have c1 : 0 ≤ (-a) % n := Int.emod_nonneg _ (by omega)
    have c2 : (-a) % n < n := Int.emod_lt_of_pos _ hn
    by_cases hz : (-a) % n = 0
    · have h2 : a.tmod n = 0 := by rw [h1, hz]; rfl
      have HF := Lib.hid (show (0 : Int) = a % n by
        have : n ∣ -a := Int.dvd_of_emod_eq_zero hz
        exact (Int.emod_eq_zero_of_dvd (Int.dvd_neg.1 this)).symm)
      clear h1 hz c1 c2 b1 b2
      go_enter Tryz.func52, Tryz.ntmps52
      go_wp2
      go_ret
      exact ⟨ret_int HF.out, rfl⟩
    · obtain ⟨r, hr⟩ : ∃ r, r = (-a) % n := ⟨_, rfl⟩
      rw [← hr] at h1 c1 c2 hz
      have HF := Lib.hid (show -r + n = a % n by
        have e := Int.emod_add_mul_ediv (-a) n
        rw [← hr] at e
        have e2 : a = (-r + n) + n * (-((-a) / n) - 1) := by rw [Int.mul_sub, Int.mul_neg]; omega
        rw [e2, Int.add_mul_emod_self_left]
        exact (Int.emod_eq_of_lt (by omega) (by omega)).symm)
      clear hr b1 b2
      go_enter Tryz.func52, Tryz.ntmps52
      go_wp2
      go_ret
      exact ⟨ret_int HF.out, rfl⟩

end Go.Proofs.YthhmedlefahccaaGreatDoor
/-
  Contract of the laws' Text: signs by numbers; nothing that was in memory is changed.
-/
namespace Go.Proofs.YthhmedlefahccaaGreatDoor
open Go.RowKit Plait
set_option maxRecDepth 100000
set_option linter.unusedVariables false

/-- The loop of Text. -/
def TextAtL (zs : List Int) (w : World) (s i : Value) (w' : World) : Prop :=
  ∃ k : Nat, k ≤ zs.length ∧ k ≤ 80 ∧ i = .int .i64 k ∧ s = .string ⟨((zs.take k).map signOf).toArray⟩ ∧ Below w.heap.size w w'

theorem sign_cell (j : Nat) (h : j < 11) : [Value.string ⟨#[48]⟩, Value.string ⟨#[49]⟩, Value.string ⟨#[48]⟩, Value.string ⟨#[49]⟩, Value.string ⟨#[48]⟩, Value.string ⟨#[49]⟩, Value.string ⟨#[48]⟩, Value.string ⟨#[49]⟩, Value.string ⟨#[35]⟩, Value.string ⟨#[46]⟩, Value.string ⟨#[120]⟩][j]'(by simpa using h) = .string ⟨#[signs.getD j 0]⟩ := by
  have h' : j = 0 ∨ j = 1 ∨ j = 2 ∨ j = 3 ∨ j = 4 ∨ j = 5 ∨ j = 6 ∨ j = 7 ∨ j = 8 ∨ j = 9 ∨ j = 10 := by omega
  rcases h' with rfl | rfl | rfl | rfl | rfl | rfl | rfl | rfl | rfl | rfl | rfl <;> rfl

theorem sign_take (zs : List Int) (k : Nat) (h : k < zs.length) (j : Nat) (hj : zs[k] % 11 = j) : (zs.take (k + 1)).map signOf = (zs.take k).map signOf ++ [signs.getD j 0] := by
  rw [List.take_succ_eq_append_getElem h, List.map_append]
  simp [signOf, hj]

theorem textL_of (zs : List Int) (k : Nat) (h : k ≤ zs.length) (h2 : k ≤ 80) (h3 : k = zs.length ∨ k = 80) : (zs.take k).map signOf = textL zs := by
  unfold textL
  rcases h3 with rfl | rfl
  · rw [List.take_of_length_le (Nat.le_refl _), List.take_of_length_le h2]
  · rfl

set_option maxHeartbeats 800000 in
theorem text_any (a : Option Addr) (zs : List Int) (cap : Nat) (w : World) (hrow : Row w a zs) :
    Calls Tryz.prog 33 #[.slice a zs.length cap] w fun e w' => e = .returned (.string ⟨(textL zs).toArray⟩) ∧ Below w.heap.size w w' := by
  have hl := hrow.1
  go_enter Tryz.func33, Tryz.ntmps33
  go_wp2
  go_loopw [3, 4] (fun s i w' => TextAtL zs w s i w') (fun _ i _ => zs.length - (intOf i).toNat)
  case atStart => exact ⟨0, Nat.zero_le _, Nat.zero_le _, rfl, by simp, Below.refl _ _⟩
  case round =>
    obtain ⟨k, hk, hk2, rfl, rfl, hb⟩ := hrel
    by_cases hlt : k < zs.length
    · have d1 : decide (k < zs.length) = true := by simpa using hlt
      by_cases h80 : k < 80
      · have d2 : decide ((k : Int) < 80) = true := by simp; omega
        have hlen : ((zs.take k).map signOf).length ≤ 80 := by simp; omega
        obtain ⟨_, hz, h3⟩ := hrow
        rcases h3 with h3 | ⟨b, off, rfl, hbl, hc⟩
        · rw [h3] at hlt; simp at hlt
        have hck : wr.cell? ⟨b, off + k, none⟩ = some (.int .i64 zs[k]) := by rw [hb.cell (p := ⟨b, off + k, none⟩) hbl]; exact hc k hlt
        have hzk := hz zs[k] (List.getElem_mem hlt)
        obtain ⟨j, hj⟩ : ∃ j : Nat, zs[k] % 11 = j := ⟨(zs[k] % 11).toNat, by omega⟩
        have hj11 : j < 11 := by omega
        have HT := Lib.hid (sign_take zs k hlt j hj)
        have hsg := sign_cell j hj11
        generalize signs.getD j 0 = c at *
        generalize (zs.take k).map signOf = L at *
        have HC := Lib.hid hc
        have HZ := Lib.hid hz
        clear hc hz
        have hbw := hb.size
        have hbl2 : b < wr.heap.size := by omega
        have HJ := Lib.hid hj
        clear hj
        go_wp2_with fail
        refine (within_any _ _ _ (by omega) (by omega)).mono ?_
        rintro e w2 ⟨rfl, rfl⟩
        rw [HJ.out]
        go_wp2
        go_roundw
        case rel => exact ⟨k + 1, by omega, by omega, by go_num, by rw [HT.out], hb.alloc hbw _⟩
        case measure => simp [intOf]; omega
      · have d2 : decide ((k : Int) < 80) = false := by simp; omega
        rw [textL_of zs k hk hk2 (.inr (by omega))]
        go_wp2
        go_ret
        exact ⟨rfl, hb⟩
    · have d1 : decide (k < zs.length) = false := by simpa using hlt
      rw [textL_of zs k hk hk2 (.inl (by omega))]
      go_wp2
      go_ret
      exact ⟨rfl, hb⟩

end Go.Proofs.YthhmedlefahccaaGreatDoor
/-
  plaitinglaw6's within, known and Few.
-/
namespace Go.Proofs.YthhmedlefahccaaGreatDoor
open Go.RowKit Plait
set_option maxRecDepth 100000
set_option linter.unusedVariables false

theorem within6_any (a n : Int) (w : World) (hn : 0 < n) (hn2 : n ≤ 1099511627776) :
    Calls Tryz.prog 53 #[.int .i64 a, .int .i64 n] w fun e w' => e = .returned (.int .i64 (a % n)) ∧ w = w' := by
  have b1 : 0 ≤ a % n := Int.emod_nonneg _ (by omega)
  have b2 : a % n < n := Int.emod_lt_of_pos _ hn
  by_cases h0 : 0 ≤ a
  · go_enter Tryz.func53, Tryz.ntmps53
    go_wp2
    go_ret
    exact ⟨rfl, rfl⟩
  · have h1 : a.tmod n = -((-a) % n) := by
      rw [show a = -(-a) by omega, Int.neg_tmod, Int.tmod_eq_emod_of_nonneg (by omega)]; simp
    have c1 : 0 ≤ (-a) % n := Int.emod_nonneg _ (by omega)
    have c2 : (-a) % n < n := Int.emod_lt_of_pos _ hn
    by_cases hz : (-a) % n = 0
    · have h2 : a.tmod n = 0 := by rw [h1, hz]; rfl
      have HF := Lib.hid (show (0 : Int) = a % n by
        have : n ∣ -a := Int.dvd_of_emod_eq_zero hz
        exact (Int.emod_eq_zero_of_dvd (Int.dvd_neg.1 this)).symm)
      clear h1 hz c1 c2 b1 b2
      go_enter Tryz.func53, Tryz.ntmps53
      go_wp2
      go_ret
      exact ⟨ret_int HF.out, rfl⟩
    · obtain ⟨r, hr⟩ : ∃ r, r = (-a) % n := ⟨_, rfl⟩
      rw [← hr] at h1 c1 c2 hz
      have HF := Lib.hid (show -r + n = a % n by
        have e := Int.emod_add_mul_ediv (-a) n
        rw [← hr] at e
        have e2 : a = (-r + n) + n * (-((-a) / n) - 1) := by rw [Int.mul_sub, Int.mul_neg]; omega
        rw [e2, Int.add_mul_emod_self_left]
        exact (Int.emod_eq_of_lt (by omega) (by omega)).symm)
      clear hr b1 b2
      go_enter Tryz.func53, Tryz.ntmps53
      go_wp2
      go_ret
      exact ⟨ret_int HF.out, rfl⟩

/-- The chapter's examples. -/
def l0 : Fa := ⟨0, 0, 0, 0, [], []⟩
def l9 : Fa := ⟨9, 0, 0, 0, [], []⟩

theorem few_spec (f : Fa) : fewL f = (f.A.all (fun a => decide (a.T.length ≤ 1200)) && decide ((f.A.length : Int) ≤ 50) && decide ((f.D.length : Int) ≤ 50)) := by
  unfold fewL
  congr 1
  · congr 1
    rw [decide_eq_decide]; omega
  · rw [decide_eq_decide]; omega

set_option maxHeartbeats 800000 in
theorem few6_any (f : Fa) (a : Option Addr) (ac : Nat) (d : Option Addr) (dc : Nat) (w : World) (hA : RowA w a f.A) (hD : f.D.length ≤ 9223372036854775807) :
    Calls Tryz.prog 16 #[.agg #[.int .i64 f.K, .int .i64 f.At, .int .i64 f.F, .int .i64 f.To, .slice a f.A.length ac, .slice d f.D.length dc]] w fun e w' => e = .returned (.bool (fewL f)) ∧ Below w.heap.size w w' := by
  have hlen := hA.1
  have hB0 : Below w.heap.size w (w.alloc (.cells #[.int .i64 f.K, .int .i64 f.At, .int .i64 f.F, .int .i64 f.To, .slice a f.A.length ac, .slice d f.D.length dc] 27)) := alloc_below w _
  have hF : Blk (w.alloc (.cells #[.int .i64 f.K, .int .i64 f.At, .int .i64 f.F, .int .i64 f.To, .slice a f.A.length ac, .slice d f.D.length dc] 27)) w.heap.size 27 (faBox f a ac d dc) := Blk.new w _ _
  have hA1 := hA.alloc (.cells #[.int .i64 f.K, .int .i64 f.At, .int .i64 f.F, .int .i64 f.To, .slice a f.A.length ac, .slice d f.D.length dc] 27)
  have hQ := hF.at
  unfold faBox at hQ
  have HX := Lib.hid (few_spec f)
  go_enter Tryz.func16, Tryz.ntmps16
  go_upto_region 1 with fail
  generalize w.alloc (.cells #[.int .i64 f.K, .int .i64 f.At, .int .i64 f.F, .int .i64 f.To, .slice a f.A.length ac, .slice d f.D.length dc] 27) = w1 at *
  go_wp2_with fail
  go_loopw [3] (fun i w' => ∃ k : Nat, k ≤ f.A.length ∧ i = .int .i64 k ∧ (f.A.take k).all (fun a => decide (a.T.length ≤ 1200)) = true ∧ w' = w1) (fun i _ => f.A.length - (intOf i).toNat)
  case atStart => exact ⟨0, Nat.zero_le _, rfl, by simp, rfl⟩
  case round =>
    obtain ⟨k, hk, rfl, hno, rfl⟩ := hrel
    have HN := Lib.hid hno
    clear hno
    by_cases hlt : k < f.A.length
    · have d1 : decide (k < f.A.length) = true := by simpa using hlt
      have d1' : decide ((k : Int) < (f.A.length : Int)) = true := by simp; omega
      obtain ⟨b, off, rfl, hbl, c1, c2, c3, _, _, hT⟩ := hA1.get k hlt
      by_cases hx : f.A[k].T.length ≤ 1200
      · have HS := Lib.hid (show (f.A.take (k + 1)).all (fun a => decide (a.T.length ≤ 1200)) = true by rw [List.take_succ_eq_append_getElem hlt, List.all_append, HN.out]; simpa using hx)
        generalize f.A[k] = t at *
        have d2 : decide ((1200 : Int) < (t.T.length : Int)) = false := by simp; omega
        go_wp2
        go_roundw
        case rel => exact ⟨k + 1, by omega, by go_num, HS.out, by trivial⟩
        case measure => simp [intOf]; omega
      · have HE := Lib.hid (show fewL f = false by
          rw [HX.out]
          have : f.A.all (fun a => decide (a.T.length ≤ 1200)) = false := by
            rw [List.all_eq_false]
            exact ⟨f.A[k], List.getElem_mem hlt, by simpa using hx⟩
          rw [this]
          rfl)
        generalize f.A[k] = t at *
        have d2 : decide ((1200 : Int) < (t.T.length : Int)) = true := by simp; omega
        go_wp2
        go_ret
        exact ⟨ret_bool HE.out.symm, hB0⟩
    · have d1 : decide (k < f.A.length) = false := by simpa using hlt
      have d1' : decide ((k : Int) < (f.A.length : Int)) = false := by simp; omega
      have HE := Lib.hid (show fewL f = (decide ((f.A.length : Int) ≤ 50) && decide ((f.D.length : Int) ≤ 50)) by
        rw [HX.out]
        have := HN.out
        rw [List.take_of_length_le (by omega)] at this
        rw [this]
        rfl)
      cases d3 : decide ((f.A.length : Int) ≤ 50)
      · rw [d3] at HE
        go_wp2
        go_ret
        exact ⟨ret_bool (by rw [HE.out]; rfl), hB0⟩
      · rw [d3] at HE
        go_wp2
        go_ret
        exact ⟨ret_bool (by rw [HE.out]; simp), hB0⟩

end Go.Proofs.YthhmedlefahccaaGreatDoor
/-
  Rows of acts that a call made itself.
-/
namespace Go.Proofs.YthhmedlefahccaaGreatDoor
open Go.RowKit Plait
set_option maxRecDepth 100000
set_option linter.unusedVariables false

/-- The cells of acts. -/
def acCells (ts : List Ac) : List Value := ts.flatMap fun t => [.int .i64 t.H, .int .i64 t.N, .string ⟨t.T.toArray⟩]

theorem acCells_cons (t : Ac) (r : List Ac) : acCells (t :: r) = [.int .i64 t.H, .int .i64 t.N, .string ⟨t.T.toArray⟩] ++ acCells r := by unfold acCells; rw [List.flatMap_cons]
theorem acCells_len : ∀ ts : List Ac, (acCells ts).length = ts.length * 3
  | [] => rfl
  | t :: r => by rw [acCells_cons, List.length_append, List.length_cons, acCells_len r]; simp; omega

theorem acCells_get : ∀ (ts : List Ac) (i : Nat) (h : i < ts.length), (acCells ts)[i * 3]? = some (.int .i64 ts[i].H) ∧ (acCells ts)[i * 3 + 1]? = some (.int .i64 ts[i].N) ∧ (acCells ts)[i * 3 + 2]? = some (.string ⟨ts[i].T.toArray⟩)
  | [], i, h => absurd h (by simp)
  | t :: r, 0, h => ⟨rfl, rfl, rfl⟩
  | t :: r, i + 1, h => by
    have ih := acCells_get r i (by simpa using h)
    rw [acCells_cons]
    refine ⟨?_, ?_, ?_⟩
    · rw [List.getElem?_append_right (by simp; omega), show (i + 1) * 3 - [Value.int .i64 t.H, Value.int .i64 t.N, Value.string ⟨t.T.toArray⟩].length = i * 3 by simp; omega]
      exact ih.1
    · rw [List.getElem?_append_right (by simp; omega), show (i + 1) * 3 + 1 - [Value.int .i64 t.H, Value.int .i64 t.N, Value.string ⟨t.T.toArray⟩].length = i * 3 + 1 by simp; omega]
      exact ih.2.1
    · rw [List.getElem?_append_right (by simp; omega), show (i + 1) * 3 + 2 - [Value.int .i64 t.H, Value.int .i64 t.N, Value.string ⟨t.T.toArray⟩].length = i * 3 + 2 by simp; omega]
      exact ih.2.2

theorem acCells_append (a b : List Ac) : acCells (a ++ b) = acCells a ++ acCells b := by simp [acCells]

/-- A row of acts that the call made itself. -/
def OwnA (base : Nat) (w : World) (v : Value) (ts : List Ac) : Prop := w.ownsRow base 79 3 v ts.length (acCells ts)

theorem OwnA.nil (base : Nat) (w : World) : OwnA base w (.slice none 0 0) [] := World.ownsRow_nil w base _ 3

theorem OwnA.form {base : Nat} {w : World} {v : Value} {ts : List Ac} (h : OwnA base w v ts) : ∃ a cap, v = .slice a ts.length cap := by
  rcases h.2 with ⟨hv, h0⟩ | ⟨g, cap, cur, hv, _⟩
  · exact ⟨none, 0, by rw [hv, h0]⟩
  · exact ⟨_, _, hv⟩

theorem OwnA.lt {base : Nat} {w : World} {v : Value} {ts : List Ac} (h : OwnA base w v ts) : ∀ k, v.ownBlock = some k → base ≤ k ∧ k < w.heap.size := World.ownsRow.lt h
theorem OwnA.later {base : Nat} {w w' : World} {v : Value} {ts : List Ac} (h : OwnA base w v ts) (hb : Below w.heap.size w w') : OwnA base w' v ts := by
  refine World.ownsRow.kept (row := none) h ⟨hb.os, hb.tape, hb.output, hb.size, fun k hk _ => hb.block k hk⟩ ?_
  cases hv : v.ownBlock
  · exact .inl rfl
  · exact .inr (by simp)
theorem OwnA.far {base : Nat} {w : World} {v : Value} {ts : List Ac} (h : OwnA base w v ts) (p : Addr) (u : Value) (hp : p.block < base) : OwnA base (w.setCell p u) v ts := by
  refine World.ownsRow.kept (row := some p.block) h ⟨rfl, rfl, rfl, by simp [World.setCell], fun k hk hne => Below.heap_setCell w p u k (fun e => hne (by rw [e]))⟩ ?_
  cases hv : v.ownBlock with
  | none => exact .inl rfl
  | some g =>
    refine .inr (fun e => ?_)
    have := (h.lt g hv).1
    injection e with e
    omega
/-- A store into a block that is not the row's. -/
theorem OwnA.apart {base : Nat} {w : World} {v : Value} {ts : List Ac} (h : OwnA base w v ts) (p : Addr) (u : Value) (hp : ∀ g, v.ownBlock = some g → g ≠ p.block) : OwnA base (w.setCell p u) v ts := by
  refine World.ownsRow.kept (row := some p.block) h ⟨rfl, rfl, rfl, by simp [World.setCell], fun k hk hne => Below.heap_setCell w p u k (fun e => hne (by rw [e]))⟩ ?_
  cases hv : v.ownBlock with
  | none => exact .inl rfl
  | some g => exact .inr (fun e => hp g hv (by injection e))

theorem OwnA.row {base : Nat} {w : World} {a : Option Addr} {n cap : Nat} {ts : List Ac} (h : OwnA base w (.slice a n cap) ts) (hl : ts.length ≤ 9223372036854775807) (hz : ∀ t ∈ ts, inI t.H ∧ inI t.N ∧ t.T.length ≤ 9223372036854775807) : RowA w a ts := by
  refine ⟨hl, hz, ?_⟩
  rcases Nat.eq_zero_or_pos ts.length with h0 | h0
  · exact .inl (List.eq_nil_of_length_eq_zero h0)
  · rcases h.2 with ⟨_, h1⟩ | ⟨g, cap', cur, hv, hg, hb, hcap, hmax, hsz, ht⟩
    · omega
    · have hA : a = some ⟨g, 0, none⟩ := by injection hv
      subst hA
      refine .inr ⟨g, 0, rfl, (Array.getElem?_eq_some_iff.1 hb).1, fun i hi => ?_⟩
      have hc := fun j u (hj : (acCells ts)[j]? = some u) => World.ownsRow.cells h (g := g) rfl j u hj
      have hi2 := acCells_get ts i hi
      have c1 := hc _ _ hi2.1
      have c2 := hc _ _ hi2.2.1
      have c3 := hc _ _ hi2.2.2
      rw [addr_at] at c1 c2 c3
      exact ⟨c1, c2, c3⟩

theorem infoAct : (Tryz.prog.info? 79).map (fun i => (i.zero, i.size, i.bytes)) = some (some (.agg #[.int .i64 0, .int .i64 0, .string ⟨#[]⟩]), 3, 32) := by kernel_rfl

/-- One act behind a row that the call made itself, at a plain region's list. -/
theorem wpList_appA {ops : Array Oper} {rest : List Oper} {o : Oper} {a : Act} {Q : Exit → Act → World → Prop} (w : World) (hgd : o.guard = none) (s x : Operand)
    (ho : o.op = .call { callee := .builtin .append, args := #[s, x], argTypes := #[25, 25] })
    (base : Nat) (v : Value) (ts : List Ac) (hs : a.eval s = v) (hown : OwnA base w v ts) (H c : Nat) (t : Ac) (hx : a.eval x = .slice (some ⟨H, 0, none⟩) 1 c)
    (hH : w.heap[H]? = some (.cells #[.int .i64 t.H, .int .i64 t.N, .string ⟨t.T.toArray⟩] 79 (0, 0))) (hlen : ts.length ≤ 1000000) (hbase : base ≤ w.heap.size)
    (h : ∀ g cap w', OwnA base w' (.slice (some ⟨g, 0, none⟩) (ts.length + 1) cap) (ts ++ [t]) → w.grownBy w' v.ownBlock → (v.ownBlock = some g ∨ g = w.heap.size) → g < w'.heap.size →
      wpList Tryz.prog ops Q rest (a.put o.dst (.slice (some ⟨g, 0, none⟩) (ts.length + 1) cap)) w') : wpList Tryz.prog ops Q (o :: rest) a w := by
  obtain ⟨i, hi, hz0, hz1, hz2⟩ := info_parts infoAct
  refine wpList_append_lies w hgd s x _ ho base 79 i (.agg #[.int .i64 0, .int .i64 0, .string ⟨#[]⟩]) 3 32 Tryz.underlying25 hi hz0 hz1 hz2 rfl (by omega) v ts.length _ hs hown ⟨H, 0, none⟩ 1 c [.int .i64 t.H, .int .i64 t.N, .string ⟨t.T.toArray⟩] hx rfl
    (World.news_of_block hH) (by simp [Value.oneCell']) (by omega) (by unfold maxLen; omega) (by omega) hbase _ rfl ?_
  intro g cap w' h1 h2 h3 h4
  refine h g cap w' ?_ h2 h3 h4
  unfold OwnA
  rw [List.length_append, acCells_append]
  exact h1

theorem RowA.grown {w w' : World} {a : Option Addr} {ts : List Ac} {row : Option Nat} (h : RowA w a ts) (hb : w.grownBy w' row) (hne : ts = [] ∨ ∀ x, a = some x → some x.block ≠ row) : RowA w' a ts := by
  obtain ⟨h1, h2, h3⟩ := h
  refine ⟨h1, h2, ?_⟩
  rcases h3 with h3 | ⟨b, off, rfl, hlt, hc⟩
  · exact .inl h3
  · rcases hne with hne | hne
    · exact .inl hne
    · have hk := hb.block b hlt (hne _ rfl)
      exact .inr ⟨b, off, rfl, Nat.lt_of_lt_of_le hlt hb.size, fun i hi => by rw [cell_agree hk, cell_agree hk, cell_agree hk]; exact hc i hi⟩

end Go.Proofs.YthhmedlefahccaaGreatDoor

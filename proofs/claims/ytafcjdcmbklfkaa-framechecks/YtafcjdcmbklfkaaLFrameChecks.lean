/-
  FrameChecks' walk.
-/
import Derived.Test.YtafcjdcmbklfkaaLaw54
namespace Go.Proofs.Ytafcjdcmbklfkaa
open Go.RowKit Plait
set_option linter.unusedVariables false
set_option linter.unusedSimpArgs false

set_option maxRecDepth 100000 in
set_option maxHeartbeats 16000000 in
theorem frameChecks_walk (c : Cf) (a : Option Addr) (cap : Nat) (f : Fr) (fa : Option Addr) (fc : Nat) (na : Option Addr) (ns : List Int) (nc : Nat) (wh n : Int) (w : World) (hrow : Row w a c.P) (iN : inI c.N) (iP : inI c.Pi) (iE : inI c.E) (iG : inI c.G) (iF : inI c.F)
    (hfE : RowT w fa f.E) (iK : inI f.K) (iR : inI f.R) (iS : inI f.S) (iQ : inI f.P.K) (iV : inI f.P.V) (hns : Row w na ns) (wh1 : -9223372036854775808 ≤ wh) (wh2 : wh ≤ 9223372036854775807) (nn1 : -9223372036854775808 ≤ n) (nn2 : n ≤ 9223372036854775807) :
    Calls Try.prog 3 #[.agg #[.int .i64 c.N, .int .i64 c.Pi, .int .i64 c.E, .int .i64 c.G, .int .i64 c.F, .slice a c.P.length cap], .agg #[.int .i64 f.K, .int .i64 f.R, .int .i64 f.S, .int .i64 f.P.K, .int .i64 f.P.V, .slice fa f.E.length fc], .slice na ns.length nc, .int .i64 wh, .int .i64 n] w fun e w' => e = .returned (.bool true) ∧ Below w.heap.size w w' := by
  have hB1 : Below w.heap.size w (w.alloc (.cells #[.int .i64 c.N, .int .i64 c.Pi, .int .i64 c.E, .int .i64 c.G, .int .i64 c.F, .slice a c.P.length cap] 24)) := alloc_below w _
  have hB : Below w.heap.size w ((w.alloc (.cells #[.int .i64 c.N, .int .i64 c.Pi, .int .i64 c.E, .int .i64 c.G, .int .i64 c.F, .slice a c.P.length cap] 24)).alloc (.cells #[.int .i64 f.K, .int .i64 f.R, .int .i64 f.S, .int .i64 f.P.K, .int .i64 f.P.V, .slice fa f.E.length fc] 29)) := hB1.alloc hB1.size _
  have k_c : Blk ((w.alloc (.cells #[.int .i64 c.N, .int .i64 c.Pi, .int .i64 c.E, .int .i64 c.G, .int .i64 c.F, .slice a c.P.length cap] 24)).alloc (.cells #[.int .i64 f.K, .int .i64 f.R, .int .i64 f.S, .int .i64 f.P.K, .int .i64 f.P.V, .slice fa f.E.length fc] 29)) w.heap.size 24 (confBox c a cap) := (Blk.newAt _ _ rfl).alloc _
  have k_f : Blk ((w.alloc (.cells #[.int .i64 c.N, .int .i64 c.Pi, .int .i64 c.E, .int .i64 c.G, .int .i64 c.F, .slice a c.P.length cap] 24)).alloc (.cells #[.int .i64 f.K, .int .i64 f.R, .int .i64 f.S, .int .i64 f.P.K, .int .i64 f.P.V, .slice fa f.E.length fc] 29)) (w.heap.size + 1) 29 (frBox f fa fc) := Blk.newAt _ _ (by simp)
  clear hB1
  have hl1 := hfE.1
  have HF := Lib.hid (fun W => few5_any f fa fc W hl1)
  go_enter Try.func3, Try.ntmps3
  go_wp2_with fail
  refine (known5_any _).mono ?_
  rintro e wn ⟨rfl, hb⟩
  replace hB := hB.trans (hb.mono hB.size)
  replace k_c := k_c.later hb
  replace k_f := k_f.later hb
  clear hb
  have qF := k_f.at
  unfold frBox at qF
  by_cases hfew : (f.E.length : Int) ≤ 30
  rotate_left
  · rw [decide_eq_false hfew] at HF
    go_wp2_with fail
    refine (HF.out _).mono ?_
    rintro e wl ⟨rfl, hb⟩
    go_wp2
    go_ret
    exact ⟨rfl, hB.trans (hb.mono hB.size)⟩
  rw [decide_eq_true hfew] at HF
  go_wp2_with fail
  refine (HF.out _).mono ?_
  rintro e wl ⟨rfl, hb⟩
  replace hB := hB.trans (hb.mono hB.size)
  replace k_c := k_c.later hb
  replace k_f := k_f.later hb
  clear hb qF HF hfew
  have qC := k_c.at
  unfold confBox at qC
  by_cases hp : 10 < c.P.length
  · have d1 : decide (10 < c.P.length) = true := by simpa using hp
    go_wp2
    go_ret
    exact ⟨rfl, hB⟩
  have d1 : decide (10 < c.P.length) = false := by simpa using hp
  go_wp2_with fail
  refine (make_any c a cap _ (hrow.later hB)).mono ?_
  rintro e wm ⟨da, dc, rfl, hrd, hfd, hb⟩
  replace hB := hB.trans (hb.mono hB.size)
  replace k_f := k_f.later hb
  clear hb qC k_c hfd hp d1
  have hok := makeC_ok c
  generalize makeC c = d at *
  have hdb := k_f.lt
  have hD : Blk (wm.alloc (.cells #[.int .i64 d.N, .int .i64 d.Pi, .int .i64 d.E, .int .i64 d.G, .int .i64 d.F, .slice da d.P.length dc] 24)) wm.heap.size 24 (confBox d da dc) := Blk.new wm _ _
  replace hB := hB.alloc hB.size (.cells #[.int .i64 d.N, .int .i64 d.Pi, .int .i64 d.E, .int .i64 d.G, .int .i64 d.F, .slice da d.P.length dc] 24)
  replace k_f := k_f.alloc (.cells #[.int .i64 d.N, .int .i64 d.Pi, .int .i64 d.E, .int .i64 d.G, .int .i64 d.F, .slice da d.P.length dc] 24)
  go_upto_region 6 with fail
  generalize wm.alloc (.cells #[.int .i64 d.N, .int .i64 d.Pi, .int .i64 d.E, .int .i64 d.G, .int .i64 d.F, .slice da d.P.length dc] 24) = w2 at *
  generalize wm.heap.size = db at *
  have qD := hD.at
  unfold confBox at qD
  have qF := k_f.at
  unfold frBox at qF
  go_wp2_with fail
  refine (make5_any2 d da dc f fa fc na ns nc _ hok (hns.later hB) iK iR iS iV).mono ?_
  rintro e wm ⟨ga, gc, rfl, hrg, hfg, hog, hb⟩
  have hokg := makeF_ok d f ns hok
  have h15 := (ok_small hok hokg).2.2.2.2.2
  have HC0 := Lib.hid hokg.check
  generalize makeF d f ns = g at *
  have hw0 := hD.lt
  have hB0 := hB.size
  have hfresh : ∀ x, ga = some x → db < x.block ∧ w.heap.size ≤ x.block := fun x hx => by have := hfg x hx; omega
  clear hfg
  replace hB := hB.trans (hb.mono hB.size)
  replace k_f := k_f.later hb
  replace hD := hD.later hb
  have hw2 := hD.lt
  have hwm := hb.size
  clear hb qD qF
  have hG : Blk (wm.alloc (.cells #[.int .i64 g.K, .int .i64 g.R, .int .i64 g.S, .int .i64 g.P.K, .int .i64 g.P.V, .slice ga g.E.length gc] 29)) wm.heap.size 29 (frBox g ga gc) := Blk.new wm _ _
  have hfz : ∀ x, ga = some x → g.E ≠ [] → x.off = 0 ∧ ∀ i, wm.frozen? ⟨x.block, i, none⟩ = false := by
    intro x hx hne
    subst hx
    obtain ⟨g0, cap0, hv, _, _⟩ := World.ownsRow.form hog (by have := List.length_pos_iff.2 hne; omega)
    injection hv with hv
    injection hv with hv
    subst hv
    exact ⟨rfl, fun i => World.ownsRow.frozenAt hog i⟩
  have hfz2 : ∀ x, ga = some x → g.E ≠ [] → ∀ i, (wm.alloc (.cells #[.int .i64 g.K, .int .i64 g.R, .int .i64 g.S, .int .i64 g.P.K, .int .i64 g.P.V, .slice ga g.E.length gc] 29)).frozen? ⟨x.block, i, none⟩ = false := by
    intro x hx hne i
    rcases hrg.2.2 with h | ⟨b, off, e, hlt, _⟩
    · exact absurd h hne
    · rw [hx] at e
      injection e with e
      have := (alloc_below wm (.cells #[.int .i64 g.K, .int .i64 g.R, .int .i64 g.S, .int .i64 g.P.K, .int .i64 g.P.V, .slice ga g.E.length gc] 29)).frozen (p := ⟨x.block, i, none⟩) (by rw [e]; exact hlt)
      rw [this]
      exact (hfz x hx hne).2 i
  clear hog hfz
  have hgb : ∀ x, ga = some x → g.E = [] ∨ x.block < wm.heap.size := by
    intro x hx
    rcases hrg.2.2 with h | ⟨b, off, e, hlt, _⟩
    · exact .inl h
    · rw [hx] at e; injection e with e; rw [e]; exact .inr hlt
  replace hB := hB.alloc hB.size (.cells #[.int .i64 g.K, .int .i64 g.R, .int .i64 g.S, .int .i64 g.P.K, .int .i64 g.P.V, .slice ga g.E.length gc] 29)
  replace k_f := k_f.alloc (.cells #[.int .i64 g.K, .int .i64 g.R, .int .i64 g.S, .int .i64 g.P.K, .int .i64 g.P.V, .slice ga g.E.length gc] 29)
  replace hD := hD.alloc (.cells #[.int .i64 g.K, .int .i64 g.R, .int .i64 g.S, .int .i64 g.P.K, .int .i64 g.P.V, .slice ga g.E.length gc] 29)
  replace hrg := hrg.alloc (.cells #[.int .i64 g.K, .int .i64 g.R, .int .i64 g.S, .int .i64 g.P.K, .int .i64 g.P.V, .slice ga g.E.length gc] 29)
  replace hfE := hfE.later hB
  go_upto_region 7 with fail
  generalize wm.alloc (.cells #[.int .i64 g.K, .int .i64 g.R, .int .i64 g.S, .int .i64 g.P.K, .int .i64 g.P.V, .slice ga g.E.length gc] 29) = w3 at *
  have hdg : db < wm.heap.size := hw2
  have hfgb : w.heap.size + 1 < wm.heap.size := by omega
  generalize wm.heap.size = gb at *
  have HK1 := Lib.hid (fun W (hc : d.Ok) (x : Fr) (xa : Option Addr) (xc : Nat) (h : RowT W xa x.E) => fCheck_any d da dc x xa xc W hc h)
  have HK2 := Lib.hid (fun W (hc : d.Ok) (x : Fr) (xa : Option Addr) (xc : Nat) (h : RowT W xa x.E) => rCheck5_any d da dc x xa xc W hc h)
  have HKg := Lib.hid (fun W (h : RowT W ga g.E) => fCheck_any d da dc g ga gc W hok h)
  rw [HC0.out] at HKg
  clear HC0
  have hG0 := hG.lt
  refine region_slots [some 30, some 31, some 32, some 33, some 34, some 35, some 36, some 37, some 38, some 39, some 40, some 41, some 42] [none, none, none, none, none, none, none, none, none, none, none, none, none] 124 13 rfl (by kernel_rfl) (by kernel_rfl) rfl rfl ?_
  apply step_fix
  · intro a W Zs hS hFm hz hd
    have h11 := hFm.old 11 rfl
    conv at h11 => rhs; whnf
    replace h11 := ev_get hFm.size h11
    have hq := (hD.drew1.later hS).at
    unfold confBox at hq
    refine .inl ⟨wanted_none rfl _, fun K hK => ?_⟩
    have HK := Lib.hid hK
    clear hd hFm hK
    go_simp
    exact HK.out _ _ rfl (Below.refl _ _)
  simp only [List.nil_append, List.cons_append]
  apply step_fix
  · intro a W Zs hS hFm hz hd
    have h6 := hFm.old 6 rfl
    conv at h6 => rhs; whnf
    replace h6 := ev_get hFm.size h6
    have hq := (k_f.drew1.later hS).at
    unfold frBox at hq
    refine .inl ⟨wanted_none rfl _, fun K hK => ?_⟩
    have HK := Lib.hid hK
    clear hd hFm hK
    go_simp
    exact HK.out _ _ rfl (Below.refl _ _)
  simp only [List.nil_append, List.cons_append]
  apply step_fix
  · intro a W Zs hS hFm hz hd
    have h30 := ev_get hFm.size (hd 0 30 rfl rfl)
    have h31 := ev_get hFm.size (hd 1 31 rfl rfl)
    refine .inl ⟨wanted_none rfl _, fun K hK => ?_⟩
    have HK := Lib.hid hK
    clear hd hFm hK
    go_simp
    refine (HK1.out _ hok f fa fc (hfE.drew1.later hS)).mono ?_
    rintro e W' ⟨rfl, hb⟩
    exact HK.out _ _ rfl hb
  simp only [List.nil_append, List.cons_append]
  apply step_fix
  · intro a W Zs hS hFm hz hd
    have h11 := hFm.old 11 rfl
    conv at h11 => rhs; whnf
    replace h11 := ev_get hFm.size h11
    have hq := (hD.drew1.later hS).at
    unfold confBox at hq
    refine .inl ⟨wanted_none rfl _, fun K hK => ?_⟩
    have HK := Lib.hid hK
    clear hd hFm hK
    go_simp
    exact HK.out _ _ rfl (Below.refl _ _)
  simp only [List.nil_append, List.cons_append]
  apply step_fix
  · intro a W Zs hS hFm hz hd
    have h6 := hFm.old 6 rfl
    conv at h6 => rhs; whnf
    replace h6 := ev_get hFm.size h6
    have hq := (k_f.drew1.later hS).at
    unfold frBox at hq
    refine .inl ⟨wanted_none rfl _, fun K hK => ?_⟩
    have HK := Lib.hid hK
    clear hd hFm hK
    go_simp
    exact HK.out _ _ rfl (Below.refl _ _)
  simp only [List.nil_append, List.cons_append]
  apply step_fix
  · intro a W Zs hS hFm hz hd
    have h33 := ev_get hFm.size (hd 3 33 rfl rfl)
    have h34 := ev_get hFm.size (hd 4 34 rfl rfl)
    refine .inl ⟨wanted_none rfl _, fun K hK => ?_⟩
    have HK := Lib.hid hK
    clear hd hFm hK
    go_simp
    refine (HK2.out _ hok f fa fc (hfE.drew1.later hS)).mono ?_
    rintro e W' ⟨rfl, hb⟩
    exact HK.out _ _ rfl hb
  simp only [List.nil_append, List.cons_append]
  apply step_fix
  · intro a W Zs hS hFm hz hd
    have h32 := ev_get hFm.size (hd 2 32 rfl rfl)
    have h35 := ev_get hFm.size (hd 5 35 rfl rfl)
    refine .inl ⟨wanted_none rfl _, fun K hK => ?_⟩
    have HK := Lib.hid hK
    clear hd hFm hK
    go_simp
    exact HK.out _ _ rfl (Below.refl _ _)
  simp only [List.nil_append, List.cons_append]
  apply step_fix
  · intro a W Zs hS hFm hz hd
    have h36 := ev_get hFm.size (hd 6 36 rfl rfl)
    refine .inl ⟨wanted_none rfl _, fun K hK => ?_⟩
    have HK := Lib.hid hK
    clear hd hFm hK
    go_simp
    exact HK.out _ _ rfl (Below.refl _ _)
  simp only [List.nil_append, List.cons_append]
  apply step_fix
  · intro a W Zs hS hFm hz hd
    have h11 := hFm.old 11 rfl
    conv at h11 => rhs; whnf
    replace h11 := ev_get hFm.size h11
    have hq := (hD.drew1.later hS).at
    unfold confBox at hq
    refine .inl ⟨wanted_at rfl rfl (hd 7 37 rfl rfl), fun K hK => ?_⟩
    have HK := Lib.hid hK
    clear hd hFm hK
    go_simp
    exact HK.out _ _ rfl (Below.refl _ _)
  simp only [List.nil_append, List.cons_append]
  apply step_fix
  · intro a W Zs hS hFm hz hd
    have h12 := hFm.old 12 rfl
    conv at h12 => rhs; whnf
    replace h12 := ev_get hFm.size h12
    have hq := (hG.drew1.later hS).at
    unfold frBox at hq
    refine .inl ⟨wanted_at rfl rfl (hd 7 37 rfl rfl), fun K hK => ?_⟩
    have HK := Lib.hid hK
    clear hd hFm hK
    go_simp
    exact HK.out _ _ rfl (Below.refl _ _)
  simp only [List.nil_append, List.cons_append]
  apply step_fix
  · intro a W Zs hS hFm hz hd
    have h38 := ev_get hFm.size (hd 8 38 rfl rfl)
    have h39 := ev_get hFm.size (hd 9 39 rfl rfl)
    refine .inl ⟨wanted_at rfl rfl (hd 7 37 rfl rfl), fun K hK => ?_⟩
    have HK := Lib.hid hK
    clear hd hFm hK
    go_simp
    refine (HKg.out _ (hrg.drew1.later hS)).mono ?_
    rintro e W' ⟨rfl, hb⟩
    exact HK.out _ _ rfl hb
  simp only [List.nil_append, List.cons_append]
  apply step_fix
  · intro a W Zs hS hFm hz hd
    have h40 := ev_get hFm.size (hd 10 40 rfl rfl)
    refine .inl ⟨wanted_at rfl rfl (hd 7 37 rfl rfl), fun K hK => ?_⟩
    have HK := Lib.hid hK
    clear hd hFm hK
    go_simp
    exact HK.out _ _ rfl (Below.refl _ _)
  simp only [List.nil_append, List.cons_append]
  apply step_fix
  · intro a W Zs hS hFm hz hd
    have h37 := ev_get hFm.size (hd 7 37 rfl rfl)
    have h41 := ev_get hFm.size (hd 11 41 rfl rfl)
    refine .inl ⟨wanted_none rfl _, fun K hK => ?_⟩
    have HK := Lib.hid hK
    clear hd hFm hK
    go_simp
    exact HK.out _ _ rfl (Below.refl _ _)
  simp only [List.nil_append, List.cons_append]
  intro a w4 Zs hS hFm hz hd
  have e42 := hd 12 42 (by decide) rfl
  have e0 := hFm.old 0 rfl
  conv at e0 => rhs; whnf
  have e1 := hFm.old 1 rfl
  conv at e1 => rhs; whnf
  have e2 := hFm.old 2 rfl
  conv at e2 => rhs; whnf
  have e3 := hFm.old 3 rfl
  conv at e3 => rhs; whnf
  have e4 := hFm.old 4 rfl
  conv at e4 => rhs; whnf
  have e5 := hFm.old 5 rfl
  conv at e5 => rhs; whnf
  have e6 := hFm.old 6 rfl
  conv at e6 => rhs; whnf
  have e7 := hFm.old 7 rfl
  conv at e7 => rhs; whnf
  have e8 := hFm.old 8 rfl
  conv at e8 => rhs; whnf
  have e9 := hFm.old 9 rfl
  conv at e9 => rhs; whnf
  have e10 := hFm.old 10 rfl
  conv at e10 => rhs; whnf
  have e11 := hFm.old 11 rfl
  conv at e11 => rhs; whnf
  have e12 := hFm.old 12 rfl
  conv at e12 => rhs; whnf
  have e13 := hFm.old 13 rfl
  conv at e13 => rhs; whnf
  have e14 := hFm.old 14 rfl
  conv at e14 => rhs; whnf
  have e15 := hFm.old 15 rfl
  conv at e15 => rhs; whnf
  have e16 := hFm.old 16 rfl
  conv at e16 => rhs; whnf
  have e17 := hFm.old 17 rfl
  conv at e17 => rhs; whnf
  have e18 := hFm.old 18 rfl
  conv at e18 => rhs; whnf
  have e19 := hFm.old 19 rfl
  conv at e19 => rhs; whnf
  have e20 := hFm.old 20 rfl
  conv at e20 => rhs; whnf
  have e21 := hFm.old 21 rfl
  conv at e21 => rhs; whnf
  have e22 := hFm.old 22 rfl
  conv at e22 => rhs; whnf
  have e23 := hFm.old 23 rfl
  conv at e23 => rhs; whnf
  have e24 := hFm.old 24 rfl
  conv at e24 => rhs; whnf
  have e25 := hFm.old 25 rfl
  conv at e25 => rhs; whnf
  have e26 := hFm.old 26 rfl
  conv at e26 => rhs; whnf
  have e27 := hFm.old 27 rfl
  conv at e27 => rhs; whnf
  have e28 := hFm.old 28 rfl
  conv at e28 => rhs; whnf
  have e29 := hFm.old 29 rfl
  conv at e29 => rhs; whnf
  have e43 := hFm.old 43 rfl
  conv at e43 => rhs; whnf
  have e44 := hFm.old 44 rfl
  conv at e44 => rhs; whnf
  have e45 := hFm.old 45 rfl
  conv at e45 => rhs; whnf
  have e46 := hFm.old 46 rfl
  conv at e46 => rhs; whnf
  have e47 := hFm.old 47 rfl
  conv at e47 => rhs; whnf
  have e48 := hFm.old 48 rfl
  conv at e48 => rhs; whnf
  have e49 := hFm.old 49 rfl
  conv at e49 => rhs; whnf
  have e50 := hFm.old 50 rfl
  conv at e50 => rhs; whnf
  have e51 := hFm.old 51 rfl
  conv at e51 => rhs; whnf
  have e52 := hFm.old 52 rfl
  conv at e52 => rhs; whnf
  have e53 := hFm.old 53 rfl
  conv at e53 => rhs; whnf
  have e54 := hFm.old 54 rfl
  conv at e54 => rhs; whnf
  have e55 := hFm.old 55 rfl
  conv at e55 => rhs; whnf
  have e56 := hFm.old 56 rfl
  conv at e56 => rhs; whnf
  have e57 := hFm.old 57 rfl
  conv at e57 => rhs; whnf
  have e58 := hFm.old 58 rfl
  conv at e58 => rhs; whnf
  have e59 := hFm.old 59 rfl
  conv at e59 => rhs; whnf
  have e60 := hFm.old 60 rfl
  conv at e60 => rhs; whnf
  have e61 := hFm.old 61 rfl
  conv at e61 => rhs; whnf
  have e62 := hFm.old 62 rfl
  conv at e62 => rhs; whnf
  have e63 := hFm.old 63 rfl
  conv at e63 => rhs; whnf
  have e64 := hFm.old 64 rfl
  conv at e64 => rhs; whnf
  have e65 := hFm.old 65 rfl
  conv at e65 => rhs; whnf
  have e66 := hFm.old 66 rfl
  conv at e66 => rhs; whnf
  have e67 := hFm.old 67 rfl
  conv at e67 => rhs; whnf
  have e68 := hFm.old 68 rfl
  conv at e68 => rhs; whnf
  have e69 := hFm.old 69 rfl
  conv at e69 => rhs; whnf
  have e70 := hFm.old 70 rfl
  conv at e70 => rhs; whnf
  have e71 := hFm.old 71 rfl
  conv at e71 => rhs; whnf
  have e72 := hFm.old 72 rfl
  conv at e72 => rhs; whnf
  have e73 := hFm.old 73 rfl
  conv at e73 => rhs; whnf
  have e74 := hFm.old 74 rfl
  conv at e74 => rhs; whnf
  have e75 := hFm.old 75 rfl
  conv at e75 => rhs; whnf
  have e76 := hFm.old 76 rfl
  conv at e76 => rhs; whnf
  have e77 := hFm.old 77 rfl
  conv at e77 => rhs; whnf
  have e78 := hFm.old 78 rfl
  conv at e78 => rhs; whnf
  have e79 := hFm.old 79 rfl
  conv at e79 => rhs; whnf
  have e80 := hFm.old 80 rfl
  conv at e80 => rhs; whnf
  have e81 := hFm.old 81 rfl
  conv at e81 => rhs; whnf
  have e82 := hFm.old 82 rfl
  conv at e82 => rhs; whnf
  have e83 := hFm.old 83 rfl
  conv at e83 => rhs; whnf
  have e84 := hFm.old 84 rfl
  conv at e84 => rhs; whnf
  have e85 := hFm.old 85 rfl
  conv at e85 => rhs; whnf
  have e86 := hFm.old 86 rfl
  conv at e86 => rhs; whnf
  have e87 := hFm.old 87 rfl
  conv at e87 => rhs; whnf
  have e88 := hFm.old 88 rfl
  conv at e88 => rhs; whnf
  have e89 := hFm.old 89 rfl
  conv at e89 => rhs; whnf
  have e90 := hFm.old 90 rfl
  conv at e90 => rhs; whnf
  have e91 := hFm.old 91 rfl
  conv at e91 => rhs; whnf
  have e92 := hFm.old 92 rfl
  conv at e92 => rhs; whnf
  have e93 := hFm.old 93 rfl
  conv at e93 => rhs; whnf
  have e94 := hFm.old 94 rfl
  conv at e94 => rhs; whnf
  have e95 := hFm.old 95 rfl
  conv at e95 => rhs; whnf
  have e96 := hFm.old 96 rfl
  conv at e96 => rhs; whnf
  have e97 := hFm.old 97 rfl
  conv at e97 => rhs; whnf
  have e98 := hFm.old 98 rfl
  conv at e98 => rhs; whnf
  have e99 := hFm.old 99 rfl
  conv at e99 => rhs; whnf
  have e100 := hFm.old 100 rfl
  conv at e100 => rhs; whnf
  have e101 := hFm.old 101 rfl
  conv at e101 => rhs; whnf
  have e102 := hFm.old 102 rfl
  conv at e102 => rhs; whnf
  have e103 := hFm.old 103 rfl
  conv at e103 => rhs; whnf
  have e104 := hFm.old 104 rfl
  conv at e104 => rhs; whnf
  have e105 := hFm.old 105 rfl
  conv at e105 => rhs; whnf
  have e106 := hFm.old 106 rfl
  conv at e106 => rhs; whnf
  have e107 := hFm.old 107 rfl
  conv at e107 => rhs; whnf
  have e108 := hFm.old 108 rfl
  conv at e108 => rhs; whnf
  have e109 := hFm.old 109 rfl
  conv at e109 => rhs; whnf
  have e110 := hFm.old 110 rfl
  conv at e110 => rhs; whnf
  have e111 := hFm.old 111 rfl
  conv at e111 => rhs; whnf
  have e112 := hFm.old 112 rfl
  conv at e112 => rhs; whnf
  have e113 := hFm.old 113 rfl
  conv at e113 => rhs; whnf
  have e114 := hFm.old 114 rfl
  conv at e114 => rhs; whnf
  have e115 := hFm.old 115 rfl
  conv at e115 => rhs; whnf
  have e116 := hFm.old 116 rfl
  conv at e116 => rhs; whnf
  have e117 := hFm.old 117 rfl
  conv at e117 => rhs; whnf
  have e118 := hFm.old 118 rfl
  conv at e118 => rhs; whnf
  have e119 := hFm.old 119 rfl
  conv at e119 => rhs; whnf
  have e120 := hFm.old 120 rfl
  conv at e120 => rhs; whnf
  have e121 := hFm.old 121 rfl
  conv at e121 => rhs; whnf
  have e122 := hFm.old 122 rfl
  conv at e122 => rhs; whnf
  have e123 := hFm.old 123 rfl
  conv at e123 => rhs; whnf
  have hsz := hFm.size
  have hdf := hFm.defers
  clear hd hFm
  obtain ⟨t, df⟩ := a
  simp only at hsz hdf
  subst hdf
  obtain ⟨x, hx⟩ : ∃ x : Nat → Value, ∀ i, t.getD i undef = x i := ⟨fun i => t.getD i undef, fun _ => rfl⟩
  have h42 := (hx 42).symm.trans e42
  have h0 := (hx 0).symm.trans e0
  have h1 := (hx 1).symm.trans e1
  have h2 := (hx 2).symm.trans e2
  have h3 := (hx 3).symm.trans e3
  have h4 := (hx 4).symm.trans e4
  have h5 := (hx 5).symm.trans e5
  have h6 := (hx 6).symm.trans e6
  have h7 := (hx 7).symm.trans e7
  have h8 := (hx 8).symm.trans e8
  have h9 := (hx 9).symm.trans e9
  have h10 := (hx 10).symm.trans e10
  have h11 := (hx 11).symm.trans e11
  have h12 := (hx 12).symm.trans e12
  have h13 := (hx 13).symm.trans e13
  have h14 := (hx 14).symm.trans e14
  have h15 := (hx 15).symm.trans e15
  have h16 := (hx 16).symm.trans e16
  have h17 := (hx 17).symm.trans e17
  have h18 := (hx 18).symm.trans e18
  have h19 := (hx 19).symm.trans e19
  have h20 := (hx 20).symm.trans e20
  have h21 := (hx 21).symm.trans e21
  have h22 := (hx 22).symm.trans e22
  have h23 := (hx 23).symm.trans e23
  have h24 := (hx 24).symm.trans e24
  have h25 := (hx 25).symm.trans e25
  have h26 := (hx 26).symm.trans e26
  have h27 := (hx 27).symm.trans e27
  have h28 := (hx 28).symm.trans e28
  have h29 := (hx 29).symm.trans e29
  have h43 := (hx 43).symm.trans e43
  have h44 := (hx 44).symm.trans e44
  have h45 := (hx 45).symm.trans e45
  have h46 := (hx 46).symm.trans e46
  have h47 := (hx 47).symm.trans e47
  have h48 := (hx 48).symm.trans e48
  have h49 := (hx 49).symm.trans e49
  have h50 := (hx 50).symm.trans e50
  have h51 := (hx 51).symm.trans e51
  have h52 := (hx 52).symm.trans e52
  have h53 := (hx 53).symm.trans e53
  have h54 := (hx 54).symm.trans e54
  have h55 := (hx 55).symm.trans e55
  have h56 := (hx 56).symm.trans e56
  have h57 := (hx 57).symm.trans e57
  have h58 := (hx 58).symm.trans e58
  have h59 := (hx 59).symm.trans e59
  have h60 := (hx 60).symm.trans e60
  have h61 := (hx 61).symm.trans e61
  have h62 := (hx 62).symm.trans e62
  have h63 := (hx 63).symm.trans e63
  have h64 := (hx 64).symm.trans e64
  have h65 := (hx 65).symm.trans e65
  have h66 := (hx 66).symm.trans e66
  have h67 := (hx 67).symm.trans e67
  have h68 := (hx 68).symm.trans e68
  have h69 := (hx 69).symm.trans e69
  have h70 := (hx 70).symm.trans e70
  have h71 := (hx 71).symm.trans e71
  have h72 := (hx 72).symm.trans e72
  have h73 := (hx 73).symm.trans e73
  have h74 := (hx 74).symm.trans e74
  have h75 := (hx 75).symm.trans e75
  have h76 := (hx 76).symm.trans e76
  have h77 := (hx 77).symm.trans e77
  have h78 := (hx 78).symm.trans e78
  have h79 := (hx 79).symm.trans e79
  have h80 := (hx 80).symm.trans e80
  have h81 := (hx 81).symm.trans e81
  have h82 := (hx 82).symm.trans e82
  have h83 := (hx 83).symm.trans e83
  have h84 := (hx 84).symm.trans e84
  have h85 := (hx 85).symm.trans e85
  have h86 := (hx 86).symm.trans e86
  have h87 := (hx 87).symm.trans e87
  have h88 := (hx 88).symm.trans e88
  have h89 := (hx 89).symm.trans e89
  have h90 := (hx 90).symm.trans e90
  have h91 := (hx 91).symm.trans e91
  have h92 := (hx 92).symm.trans e92
  have h93 := (hx 93).symm.trans e93
  have h94 := (hx 94).symm.trans e94
  have h95 := (hx 95).symm.trans e95
  have h96 := (hx 96).symm.trans e96
  have h97 := (hx 97).symm.trans e97
  have h98 := (hx 98).symm.trans e98
  have h99 := (hx 99).symm.trans e99
  have h100 := (hx 100).symm.trans e100
  have h101 := (hx 101).symm.trans e101
  have h102 := (hx 102).symm.trans e102
  have h103 := (hx 103).symm.trans e103
  have h104 := (hx 104).symm.trans e104
  have h105 := (hx 105).symm.trans e105
  have h106 := (hx 106).symm.trans e106
  have h107 := (hx 107).symm.trans e107
  have h108 := (hx 108).symm.trans e108
  have h109 := (hx 109).symm.trans e109
  have h110 := (hx 110).symm.trans e110
  have h111 := (hx 111).symm.trans e111
  have h112 := (hx 112).symm.trans e112
  have h113 := (hx 113).symm.trans e113
  have h114 := (hx 114).symm.trans e114
  have h115 := (hx 115).symm.trans e115
  have h116 := (hx 116).symm.trans e116
  have h117 := (hx 117).symm.trans e117
  have h118 := (hx 118).symm.trans e118
  have h119 := (hx 119).symm.trans e119
  have h120 := (hx 120).symm.trans e120
  have h121 := (hx 121).symm.trans e121
  have h122 := (hx 122).symm.trans e122
  have h123 := (hx 123).symm.trans e123
  have ht' : t = #[x 0, x 1, x 2, x 3, x 4, x 5, x 6, x 7, x 8, x 9, x 10, x 11, x 12, x 13, x 14, x 15, x 16, x 17, x 18, x 19, x 20, x 21, x 22, x 23, x 24, x 25, x 26, x 27, x 28, x 29, x 30, x 31, x 32, x 33, x 34, x 35, x 36, x 37, x 38, x 39, x 40, x 41, x 42, x 43, x 44, x 45, x 46, x 47, x 48, x 49, x 50, x 51, x 52, x 53, x 54, x 55, x 56, x 57, x 58, x 59, x 60, x 61, x 62, x 63, x 64, x 65, x 66, x 67, x 68, x 69, x 70, x 71, x 72, x 73, x 74, x 75, x 76, x 77, x 78, x 79, x 80, x 81, x 82, x 83, x 84, x 85, x 86, x 87, x 88, x 89, x 90, x 91, x 92, x 93, x 94, x 95, x 96, x 97, x 98, x 99, x 100, x 101, x 102, x 103, x 104, x 105, x 106, x 107, x 108, x 109, x 110, x 111, x 112, x 113, x 114, x 115, x 116, x 117, x 118, x 119, x 120, x 121, x 122, x 123] := frame_lit t 124 hsz x hx
  clear hx hsz hz e42 e0 e1 e2 e3 e4 e5 e6 e7 e8 e9 e10 e11 e12 e13 e14 e15 e16 e17 e18 e19 e20 e21 e22 e23 e24 e25 e26 e27 e28 e29 e43 e44 e45 e46 e47 e48 e49 e50 e51 e52 e53 e54 e55 e56 e57 e58 e59 e60 e61 e62 e63 e64 e65 e66 e67 e68 e69 e70 e71 e72 e73 e74 e75 e76 e77 e78 e79 e80 e81 e82 e83 e84 e85 e86 e87 e88 e89 e90 e91 e92 e93 e94 e95 e96 e97 e98 e99 e100 e101 e102 e103 e104 e105 e106 e107 e108 e109 e110 e111 e112 e113 e114 e115 e116 e117 e118 e119 e120 e121 e122 e123
  subst ht'
  dsimp only
  rw [h42, h0, h1, h2, h3, h4, h5, h6, h7, h8, h9, h10, h11, h12, h13, h14, h15, h16, h17, h18, h19, h20, h21, h22, h23, h24, h25, h26, h27, h28, h29, h43, h44, h45, h46, h47, h48, h49, h50, h51, h52, h53, h54, h55, h56, h57, h58, h59, h60, h61, h62, h63, h64, h65, h66, h67, h68, h69, h70, h71, h72, h73, h74, h75, h76, h77, h78, h79, h80, h81, h82, h83, h84, h85, h86, h87, h88, h89, h90, h91, h92, h93, h94, h95, h96, h97, h98, h99, h100, h101, h102, h103, h104, h105, h106, h107, h108, h109, h110, h111, h112, h113, h114, h115, h116, h117, h118, h119, h120, h121, h122, h123]
  clear h42 h0 h1 h2 h3 h4 h5 h6 h7 h8 h9 h10 h11 h12 h13 h14 h15 h16 h17 h18 h19 h20 h21 h22 h23 h24 h25 h26 h27 h28 h29 h43 h44 h45 h46 h47 h48 h49 h50 h51 h52 h53 h54 h55 h56 h57 h58 h59 h60 h61 h62 h63 h64 h65 h66 h67 h68 h69 h70 h71 h72 h73 h74 h75 h76 h77 h78 h79 h80 h81 h82 h83 h84 h85 h86 h87 h88 h89 h90 h91 h92 h93 h94 h95 h96 h97 h98 h99 h100 h101 h102 h103 h104 h105 h106 h107 h108 h109 h110 h111 h112 h113 h114 h115 h116 h117 h118 h119 h120 h121 h122 h123
  have hb2 := from_drew hS
  replace hB := hB.trans (hb2.mono hB.size)
  replace hD := hD.later hb2
  replace k_f := k_f.later hb2
  replace hG := hG.later hb2
  replace hrg := hrg.later hb2
  replace hfE := hfE.later hb2
  have hfz4 : ∀ x, ga = some x → g.E ≠ [] → ∀ i, w4.frozen? ⟨x.block, i, none⟩ = false := by
    intro x hx hne i
    have hlt : x.block < w3.heap.size := by
      rcases hgb x hx with h | h
      · exact absurd h hne
      · have := hG0; omega
    rw [hb2.frozen (p := ⟨x.block, i, none⟩) hlt]
    exact hfz2 x hx hne i
  clear hS hb2 HKg hfz2
  have hgne : g.E = [] ∨ ∀ x, ga = some x → x.block ≠ gb := by
    rcases Classical.em (g.E = []) with h | h
    · exact .inl h
    · refine .inr fun x hx => ?_
      rcases hgb x hx with h' | h'
      · exact absurd h' h
      · omega
  have HW := Lib.hid (fun W => within5_any wh 8 W (by omega) (by omega))
  rcases (by omega : wh % 8 = 0 ∨ wh % 8 = 1 ∨ wh % 8 = 2 ∨ wh % 8 = 3 ∨ wh % 8 = 4 ∨ wh % 8 = 5 ∨ wh % 8 = 6 ∨ wh % 8 = 7) with hi | hi | hi | hi | hi | hi | hi | hi
  · rw [hi] at HW
    clear hi
    go_wp2_with fail
    refine (HW.out _).mono ?_
    rintro e wl ⟨rfl, rfl⟩
    have qG := hG.at
    unfold frBox at qG
    have zG := hG.frozen
    go_upto_region 27 with fail
    replace hG : Blk (w4.setCell ⟨gb, 0, none⟩ (.int .i64 n)) gb 29 (frBox ⟨n, g.R, g.S, g.P, g.E⟩ ga gc) := hG.set 0 _
    replace hD := hD.far (p := ⟨gb, 0, none⟩) (by show db ≠ gb; omega) (.int .i64 n)
    replace hrg := hrg.far2 gb 0 (.int .i64 n) hgne
    replace hB := hB.setCell (p := ⟨gb, 0, none⟩) (by show w.heap.size ≤ gb; omega) (.int .i64 n)
    generalize w4.setCell ⟨gb, 0, none⟩ (.int .i64 n) = wx at *
    clear qG zG
    obtain ⟨g2, ga2, gc2, hG, hrg⟩ : ∃ (g2 : Fr) (ga2 : Option Addr) (gc2 : Nat), Blk wx gb 29 (frBox g2 ga2 gc2) ∧ RowT wx ga2 g2.E := ⟨_, _, _, hG, hrg⟩
    refine region_slots [some 117, some 118, some 119, some 120, some 121, some 122, some 123, some 10] [none, none, none, none, none, none, none, none] 124 8 rfl (by kernel_rfl) (by kernel_rfl) rfl rfl ?_
    apply step_fix
    · intro a W Zs hS hFm hz hd
      have h11 := hFm.old 11 rfl
      conv at h11 => rhs; whnf
      replace h11 := ev_get hFm.size h11
      have hq := (hD.drew1.later hS).at
      unfold confBox at hq
      refine .inl ⟨wanted_none rfl _, fun K hK => ?_⟩
      have HK := Lib.hid hK
      clear hd hFm hK
      go_simp
      exact HK.out _ _ rfl (Below.refl _ _)
    simp only [List.nil_append, List.cons_append]
    apply step_fix
    · intro a W Zs hS hFm hz hd
      have h12 := hFm.old 12 rfl
      conv at h12 => rhs; whnf
      replace h12 := ev_get hFm.size h12
      have hq := (hG.drew1.later hS).at
      unfold frBox at hq
      refine .inl ⟨wanted_none rfl _, fun K hK => ?_⟩
      have HK := Lib.hid hK
      clear hd hFm hK
      go_simp
      exact HK.out _ _ rfl (Below.refl _ _)
    simp only [List.nil_append, List.cons_append]
    apply step_fix
    · intro a W Zs hS hFm hz hd
      have h117 := ev_get hFm.size (hd 0 117 rfl rfl)
      have h118 := ev_get hFm.size (hd 1 118 rfl rfl)
      refine .inl ⟨wanted_none rfl _, fun K hK => ?_⟩
      have HK := Lib.hid hK
      clear hd hFm hK
      go_simp
      refine (HK1.out _ hok g2 ga2 gc2 (hrg.drew1.later hS)).mono ?_
      rintro e W' ⟨rfl, hb⟩
      exact HK.out _ _ rfl hb
    simp only [List.nil_append, List.cons_append]
    apply step_fix
    · intro a W Zs hS hFm hz hd
      have h11 := hFm.old 11 rfl
      conv at h11 => rhs; whnf
      replace h11 := ev_get hFm.size h11
      have hq := (hD.drew1.later hS).at
      unfold confBox at hq
      refine .inl ⟨wanted_none rfl _, fun K hK => ?_⟩
      have HK := Lib.hid hK
      clear hd hFm hK
      go_simp
      exact HK.out _ _ rfl (Below.refl _ _)
    simp only [List.nil_append, List.cons_append]
    apply step_fix
    · intro a W Zs hS hFm hz hd
      have h12 := hFm.old 12 rfl
      conv at h12 => rhs; whnf
      replace h12 := ev_get hFm.size h12
      have hq := (hG.drew1.later hS).at
      unfold frBox at hq
      refine .inl ⟨wanted_none rfl _, fun K hK => ?_⟩
      have HK := Lib.hid hK
      clear hd hFm hK
      go_simp
      exact HK.out _ _ rfl (Below.refl _ _)
    simp only [List.nil_append, List.cons_append]
    apply step_fix
    · intro a W Zs hS hFm hz hd
      have h120 := ev_get hFm.size (hd 3 120 rfl rfl)
      have h121 := ev_get hFm.size (hd 4 121 rfl rfl)
      refine .inl ⟨wanted_none rfl _, fun K hK => ?_⟩
      have HK := Lib.hid hK
      clear hd hFm hK
      go_simp
      refine (HK2.out _ hok g2 ga2 gc2 (hrg.drew1.later hS)).mono ?_
      rintro e W' ⟨rfl, hb⟩
      exact HK.out _ _ rfl hb
    simp only [List.nil_append, List.cons_append]
    apply step_fix
    · intro a W Zs hS hFm hz hd
      have h119 := ev_get hFm.size (hd 2 119 rfl rfl)
      have h122 := ev_get hFm.size (hd 5 122 rfl rfl)
      refine .inl ⟨wanted_none rfl _, fun K hK => ?_⟩
      have HK := Lib.hid hK
      clear hd hFm hK
      go_simp
      exact HK.out _ _ rfl (Below.refl _ _)
    simp only [List.nil_append, List.cons_append]
    apply step_fix
    · intro a W Zs hS hFm hz hd
      have h123 := ev_get hFm.size (hd 6 123 rfl rfl)
      refine .inl ⟨wanted_none rfl _, fun K hK => ?_⟩
      have HK := Lib.hid hK
      clear hd hFm hK
      go_simp
      exact HK.out _ _ rfl (Below.refl _ _)
    simp only [List.nil_append, List.cons_append]
    intro a w9 Zs hS hFm hz hd
    have e10 := hd 7 10 (by decide) rfl
    have e0 := hFm.old 0 rfl
    conv at e0 => rhs; whnf
    have e1 := hFm.old 1 rfl
    conv at e1 => rhs; whnf
    have e2 := hFm.old 2 rfl
    conv at e2 => rhs; whnf
    have e3 := hFm.old 3 rfl
    conv at e3 => rhs; whnf
    have e4 := hFm.old 4 rfl
    conv at e4 => rhs; whnf
    have e5 := hFm.old 5 rfl
    conv at e5 => rhs; whnf
    have e6 := hFm.old 6 rfl
    conv at e6 => rhs; whnf
    have e7 := hFm.old 7 rfl
    conv at e7 => rhs; whnf
    have e8 := hFm.old 8 rfl
    conv at e8 => rhs; whnf
    have e9 := hFm.old 9 rfl
    conv at e9 => rhs; whnf
    have e11 := hFm.old 11 rfl
    conv at e11 => rhs; whnf
    have e12 := hFm.old 12 rfl
    conv at e12 => rhs; whnf
    have e13 := hFm.old 13 rfl
    conv at e13 => rhs; whnf
    have e14 := hFm.old 14 rfl
    conv at e14 => rhs; whnf
    have e15 := hFm.old 15 rfl
    conv at e15 => rhs; whnf
    have e16 := hFm.old 16 rfl
    conv at e16 => rhs; whnf
    have e17 := hFm.old 17 rfl
    conv at e17 => rhs; whnf
    have e18 := hFm.old 18 rfl
    conv at e18 => rhs; whnf
    have e19 := hFm.old 19 rfl
    conv at e19 => rhs; whnf
    have e20 := hFm.old 20 rfl
    conv at e20 => rhs; whnf
    have e21 := hFm.old 21 rfl
    conv at e21 => rhs; whnf
    have e22 := hFm.old 22 rfl
    conv at e22 => rhs; whnf
    have e23 := hFm.old 23 rfl
    conv at e23 => rhs; whnf
    have e24 := hFm.old 24 rfl
    conv at e24 => rhs; whnf
    have e25 := hFm.old 25 rfl
    conv at e25 => rhs; whnf
    have e26 := hFm.old 26 rfl
    conv at e26 => rhs; whnf
    have e27 := hFm.old 27 rfl
    conv at e27 => rhs; whnf
    have e28 := hFm.old 28 rfl
    conv at e28 => rhs; whnf
    have e29 := hFm.old 29 rfl
    conv at e29 => rhs; whnf
    have e30 := hFm.old 30 rfl
    conv at e30 => rhs; whnf
    have e31 := hFm.old 31 rfl
    conv at e31 => rhs; whnf
    have e32 := hFm.old 32 rfl
    conv at e32 => rhs; whnf
    have e33 := hFm.old 33 rfl
    conv at e33 => rhs; whnf
    have e34 := hFm.old 34 rfl
    conv at e34 => rhs; whnf
    have e35 := hFm.old 35 rfl
    conv at e35 => rhs; whnf
    have e36 := hFm.old 36 rfl
    conv at e36 => rhs; whnf
    have e37 := hFm.old 37 rfl
    conv at e37 => rhs; whnf
    have e38 := hFm.old 38 rfl
    conv at e38 => rhs; whnf
    have e39 := hFm.old 39 rfl
    conv at e39 => rhs; whnf
    have e40 := hFm.old 40 rfl
    conv at e40 => rhs; whnf
    have e41 := hFm.old 41 rfl
    conv at e41 => rhs; whnf
    have e42 := hFm.old 42 rfl
    conv at e42 => rhs; whnf
    have e43 := hFm.old 43 rfl
    conv at e43 => rhs; whnf
    have e44 := hFm.old 44 rfl
    conv at e44 => rhs; whnf
    have e45 := hFm.old 45 rfl
    conv at e45 => rhs; whnf
    have e46 := hFm.old 46 rfl
    conv at e46 => rhs; whnf
    have e47 := hFm.old 47 rfl
    conv at e47 => rhs; whnf
    have e48 := hFm.old 48 rfl
    conv at e48 => rhs; whnf
    have e49 := hFm.old 49 rfl
    conv at e49 => rhs; whnf
    have e50 := hFm.old 50 rfl
    conv at e50 => rhs; whnf
    have e51 := hFm.old 51 rfl
    conv at e51 => rhs; whnf
    have e52 := hFm.old 52 rfl
    conv at e52 => rhs; whnf
    have e53 := hFm.old 53 rfl
    conv at e53 => rhs; whnf
    have e54 := hFm.old 54 rfl
    conv at e54 => rhs; whnf
    have e55 := hFm.old 55 rfl
    conv at e55 => rhs; whnf
    have e56 := hFm.old 56 rfl
    conv at e56 => rhs; whnf
    have e57 := hFm.old 57 rfl
    conv at e57 => rhs; whnf
    have e58 := hFm.old 58 rfl
    conv at e58 => rhs; whnf
    have e59 := hFm.old 59 rfl
    conv at e59 => rhs; whnf
    have e60 := hFm.old 60 rfl
    conv at e60 => rhs; whnf
    have e61 := hFm.old 61 rfl
    conv at e61 => rhs; whnf
    have e62 := hFm.old 62 rfl
    conv at e62 => rhs; whnf
    have e63 := hFm.old 63 rfl
    conv at e63 => rhs; whnf
    have e64 := hFm.old 64 rfl
    conv at e64 => rhs; whnf
    have e65 := hFm.old 65 rfl
    conv at e65 => rhs; whnf
    have e66 := hFm.old 66 rfl
    conv at e66 => rhs; whnf
    have e67 := hFm.old 67 rfl
    conv at e67 => rhs; whnf
    have e68 := hFm.old 68 rfl
    conv at e68 => rhs; whnf
    have e69 := hFm.old 69 rfl
    conv at e69 => rhs; whnf
    have e70 := hFm.old 70 rfl
    conv at e70 => rhs; whnf
    have e71 := hFm.old 71 rfl
    conv at e71 => rhs; whnf
    have e72 := hFm.old 72 rfl
    conv at e72 => rhs; whnf
    have e73 := hFm.old 73 rfl
    conv at e73 => rhs; whnf
    have e74 := hFm.old 74 rfl
    conv at e74 => rhs; whnf
    have e75 := hFm.old 75 rfl
    conv at e75 => rhs; whnf
    have e76 := hFm.old 76 rfl
    conv at e76 => rhs; whnf
    have e77 := hFm.old 77 rfl
    conv at e77 => rhs; whnf
    have e78 := hFm.old 78 rfl
    conv at e78 => rhs; whnf
    have e79 := hFm.old 79 rfl
    conv at e79 => rhs; whnf
    have e80 := hFm.old 80 rfl
    conv at e80 => rhs; whnf
    have e81 := hFm.old 81 rfl
    conv at e81 => rhs; whnf
    have e82 := hFm.old 82 rfl
    conv at e82 => rhs; whnf
    have e83 := hFm.old 83 rfl
    conv at e83 => rhs; whnf
    have e84 := hFm.old 84 rfl
    conv at e84 => rhs; whnf
    have e85 := hFm.old 85 rfl
    conv at e85 => rhs; whnf
    have e86 := hFm.old 86 rfl
    conv at e86 => rhs; whnf
    have e87 := hFm.old 87 rfl
    conv at e87 => rhs; whnf
    have e88 := hFm.old 88 rfl
    conv at e88 => rhs; whnf
    have e89 := hFm.old 89 rfl
    conv at e89 => rhs; whnf
    have e90 := hFm.old 90 rfl
    conv at e90 => rhs; whnf
    have e91 := hFm.old 91 rfl
    conv at e91 => rhs; whnf
    have e92 := hFm.old 92 rfl
    conv at e92 => rhs; whnf
    have e93 := hFm.old 93 rfl
    conv at e93 => rhs; whnf
    have e94 := hFm.old 94 rfl
    conv at e94 => rhs; whnf
    have e95 := hFm.old 95 rfl
    conv at e95 => rhs; whnf
    have e96 := hFm.old 96 rfl
    conv at e96 => rhs; whnf
    have e97 := hFm.old 97 rfl
    conv at e97 => rhs; whnf
    have e98 := hFm.old 98 rfl
    conv at e98 => rhs; whnf
    have e99 := hFm.old 99 rfl
    conv at e99 => rhs; whnf
    have e100 := hFm.old 100 rfl
    conv at e100 => rhs; whnf
    have e101 := hFm.old 101 rfl
    conv at e101 => rhs; whnf
    have e102 := hFm.old 102 rfl
    conv at e102 => rhs; whnf
    have e103 := hFm.old 103 rfl
    conv at e103 => rhs; whnf
    have e104 := hFm.old 104 rfl
    conv at e104 => rhs; whnf
    have e105 := hFm.old 105 rfl
    conv at e105 => rhs; whnf
    have e106 := hFm.old 106 rfl
    conv at e106 => rhs; whnf
    have e107 := hFm.old 107 rfl
    conv at e107 => rhs; whnf
    have e108 := hFm.old 108 rfl
    conv at e108 => rhs; whnf
    have e109 := hFm.old 109 rfl
    conv at e109 => rhs; whnf
    have e110 := hFm.old 110 rfl
    conv at e110 => rhs; whnf
    have e111 := hFm.old 111 rfl
    conv at e111 => rhs; whnf
    have e112 := hFm.old 112 rfl
    conv at e112 => rhs; whnf
    have e113 := hFm.old 113 rfl
    conv at e113 => rhs; whnf
    have e114 := hFm.old 114 rfl
    conv at e114 => rhs; whnf
    have e115 := hFm.old 115 rfl
    conv at e115 => rhs; whnf
    have e116 := hFm.old 116 rfl
    conv at e116 => rhs; whnf
    have hsz := hFm.size
    have hdf := hFm.defers
    clear hd hFm
    obtain ⟨t, df⟩ := a
    simp only at hsz hdf
    subst hdf
    obtain ⟨x, hx⟩ : ∃ x : Nat → Value, ∀ i, t.getD i undef = x i := ⟨fun i => t.getD i undef, fun _ => rfl⟩
    have h10 := (hx 10).symm.trans e10
    have h0 := (hx 0).symm.trans e0
    have h1 := (hx 1).symm.trans e1
    have h2 := (hx 2).symm.trans e2
    have h3 := (hx 3).symm.trans e3
    have h4 := (hx 4).symm.trans e4
    have h5 := (hx 5).symm.trans e5
    have h6 := (hx 6).symm.trans e6
    have h7 := (hx 7).symm.trans e7
    have h8 := (hx 8).symm.trans e8
    have h9 := (hx 9).symm.trans e9
    have h11 := (hx 11).symm.trans e11
    have h12 := (hx 12).symm.trans e12
    have h13 := (hx 13).symm.trans e13
    have h14 := (hx 14).symm.trans e14
    have h15 := (hx 15).symm.trans e15
    have h16 := (hx 16).symm.trans e16
    have h17 := (hx 17).symm.trans e17
    have h18 := (hx 18).symm.trans e18
    have h19 := (hx 19).symm.trans e19
    have h20 := (hx 20).symm.trans e20
    have h21 := (hx 21).symm.trans e21
    have h22 := (hx 22).symm.trans e22
    have h23 := (hx 23).symm.trans e23
    have h24 := (hx 24).symm.trans e24
    have h25 := (hx 25).symm.trans e25
    have h26 := (hx 26).symm.trans e26
    have h27 := (hx 27).symm.trans e27
    have h28 := (hx 28).symm.trans e28
    have h29 := (hx 29).symm.trans e29
    have h30 := (hx 30).symm.trans e30
    have h31 := (hx 31).symm.trans e31
    have h32 := (hx 32).symm.trans e32
    have h33 := (hx 33).symm.trans e33
    have h34 := (hx 34).symm.trans e34
    have h35 := (hx 35).symm.trans e35
    have h36 := (hx 36).symm.trans e36
    have h37 := (hx 37).symm.trans e37
    have h38 := (hx 38).symm.trans e38
    have h39 := (hx 39).symm.trans e39
    have h40 := (hx 40).symm.trans e40
    have h41 := (hx 41).symm.trans e41
    have h42 := (hx 42).symm.trans e42
    have h43 := (hx 43).symm.trans e43
    have h44 := (hx 44).symm.trans e44
    have h45 := (hx 45).symm.trans e45
    have h46 := (hx 46).symm.trans e46
    have h47 := (hx 47).symm.trans e47
    have h48 := (hx 48).symm.trans e48
    have h49 := (hx 49).symm.trans e49
    have h50 := (hx 50).symm.trans e50
    have h51 := (hx 51).symm.trans e51
    have h52 := (hx 52).symm.trans e52
    have h53 := (hx 53).symm.trans e53
    have h54 := (hx 54).symm.trans e54
    have h55 := (hx 55).symm.trans e55
    have h56 := (hx 56).symm.trans e56
    have h57 := (hx 57).symm.trans e57
    have h58 := (hx 58).symm.trans e58
    have h59 := (hx 59).symm.trans e59
    have h60 := (hx 60).symm.trans e60
    have h61 := (hx 61).symm.trans e61
    have h62 := (hx 62).symm.trans e62
    have h63 := (hx 63).symm.trans e63
    have h64 := (hx 64).symm.trans e64
    have h65 := (hx 65).symm.trans e65
    have h66 := (hx 66).symm.trans e66
    have h67 := (hx 67).symm.trans e67
    have h68 := (hx 68).symm.trans e68
    have h69 := (hx 69).symm.trans e69
    have h70 := (hx 70).symm.trans e70
    have h71 := (hx 71).symm.trans e71
    have h72 := (hx 72).symm.trans e72
    have h73 := (hx 73).symm.trans e73
    have h74 := (hx 74).symm.trans e74
    have h75 := (hx 75).symm.trans e75
    have h76 := (hx 76).symm.trans e76
    have h77 := (hx 77).symm.trans e77
    have h78 := (hx 78).symm.trans e78
    have h79 := (hx 79).symm.trans e79
    have h80 := (hx 80).symm.trans e80
    have h81 := (hx 81).symm.trans e81
    have h82 := (hx 82).symm.trans e82
    have h83 := (hx 83).symm.trans e83
    have h84 := (hx 84).symm.trans e84
    have h85 := (hx 85).symm.trans e85
    have h86 := (hx 86).symm.trans e86
    have h87 := (hx 87).symm.trans e87
    have h88 := (hx 88).symm.trans e88
    have h89 := (hx 89).symm.trans e89
    have h90 := (hx 90).symm.trans e90
    have h91 := (hx 91).symm.trans e91
    have h92 := (hx 92).symm.trans e92
    have h93 := (hx 93).symm.trans e93
    have h94 := (hx 94).symm.trans e94
    have h95 := (hx 95).symm.trans e95
    have h96 := (hx 96).symm.trans e96
    have h97 := (hx 97).symm.trans e97
    have h98 := (hx 98).symm.trans e98
    have h99 := (hx 99).symm.trans e99
    have h100 := (hx 100).symm.trans e100
    have h101 := (hx 101).symm.trans e101
    have h102 := (hx 102).symm.trans e102
    have h103 := (hx 103).symm.trans e103
    have h104 := (hx 104).symm.trans e104
    have h105 := (hx 105).symm.trans e105
    have h106 := (hx 106).symm.trans e106
    have h107 := (hx 107).symm.trans e107
    have h108 := (hx 108).symm.trans e108
    have h109 := (hx 109).symm.trans e109
    have h110 := (hx 110).symm.trans e110
    have h111 := (hx 111).symm.trans e111
    have h112 := (hx 112).symm.trans e112
    have h113 := (hx 113).symm.trans e113
    have h114 := (hx 114).symm.trans e114
    have h115 := (hx 115).symm.trans e115
    have h116 := (hx 116).symm.trans e116
    have ht' : t = #[x 0, x 1, x 2, x 3, x 4, x 5, x 6, x 7, x 8, x 9, x 10, x 11, x 12, x 13, x 14, x 15, x 16, x 17, x 18, x 19, x 20, x 21, x 22, x 23, x 24, x 25, x 26, x 27, x 28, x 29, x 30, x 31, x 32, x 33, x 34, x 35, x 36, x 37, x 38, x 39, x 40, x 41, x 42, x 43, x 44, x 45, x 46, x 47, x 48, x 49, x 50, x 51, x 52, x 53, x 54, x 55, x 56, x 57, x 58, x 59, x 60, x 61, x 62, x 63, x 64, x 65, x 66, x 67, x 68, x 69, x 70, x 71, x 72, x 73, x 74, x 75, x 76, x 77, x 78, x 79, x 80, x 81, x 82, x 83, x 84, x 85, x 86, x 87, x 88, x 89, x 90, x 91, x 92, x 93, x 94, x 95, x 96, x 97, x 98, x 99, x 100, x 101, x 102, x 103, x 104, x 105, x 106, x 107, x 108, x 109, x 110, x 111, x 112, x 113, x 114, x 115, x 116, x 117, x 118, x 119, x 120, x 121, x 122, x 123] := frame_lit t 124 hsz x hx
    clear hx hsz hz e10 e0 e1 e2 e3 e4 e5 e6 e7 e8 e9 e11 e12 e13 e14 e15 e16 e17 e18 e19 e20 e21 e22 e23 e24 e25 e26 e27 e28 e29 e30 e31 e32 e33 e34 e35 e36 e37 e38 e39 e40 e41 e42 e43 e44 e45 e46 e47 e48 e49 e50 e51 e52 e53 e54 e55 e56 e57 e58 e59 e60 e61 e62 e63 e64 e65 e66 e67 e68 e69 e70 e71 e72 e73 e74 e75 e76 e77 e78 e79 e80 e81 e82 e83 e84 e85 e86 e87 e88 e89 e90 e91 e92 e93 e94 e95 e96 e97 e98 e99 e100 e101 e102 e103 e104 e105 e106 e107 e108 e109 e110 e111 e112 e113 e114 e115 e116
    subst ht'
    dsimp only
    rw [h10, h0, h1, h2, h3, h4, h5, h6, h7, h8, h9, h11, h12, h13, h14, h15, h16, h17, h18, h19, h20, h21, h22, h23, h24, h25, h26, h27, h28, h29, h30, h31, h32, h33, h34, h35, h36, h37, h38, h39, h40, h41, h42, h43, h44, h45, h46, h47, h48, h49, h50, h51, h52, h53, h54, h55, h56, h57, h58, h59, h60, h61, h62, h63, h64, h65, h66, h67, h68, h69, h70, h71, h72, h73, h74, h75, h76, h77, h78, h79, h80, h81, h82, h83, h84, h85, h86, h87, h88, h89, h90, h91, h92, h93, h94, h95, h96, h97, h98, h99, h100, h101, h102, h103, h104, h105, h106, h107, h108, h109, h110, h111, h112, h113, h114, h115, h116]
    clear h10 h0 h1 h2 h3 h4 h5 h6 h7 h8 h9 h11 h12 h13 h14 h15 h16 h17 h18 h19 h20 h21 h22 h23 h24 h25 h26 h27 h28 h29 h30 h31 h32 h33 h34 h35 h36 h37 h38 h39 h40 h41 h42 h43 h44 h45 h46 h47 h48 h49 h50 h51 h52 h53 h54 h55 h56 h57 h58 h59 h60 h61 h62 h63 h64 h65 h66 h67 h68 h69 h70 h71 h72 h73 h74 h75 h76 h77 h78 h79 h80 h81 h82 h83 h84 h85 h86 h87 h88 h89 h90 h91 h92 h93 h94 h95 h96 h97 h98 h99 h100 h101 h102 h103 h104 h105 h106 h107 h108 h109 h110 h111 h112 h113 h114 h115 h116
    have hb9 := from_drew hS
    replace hB := hB.trans (hb9.mono hB.size)
    go_wp2
    go_ret
    exact ⟨rfl, hB⟩
  · rw [hi] at HW
    clear hi
    go_wp2_with fail
    refine (HW.out _).mono ?_
    rintro e wl ⟨rfl, rfl⟩
    have qG := hG.at
    unfold frBox at qG
    have zG := hG.frozen
    have HN := Lib.hid (fun W => within5_any n 3 W (by omega) (by omega))
    obtain ⟨j, hj, hjm⟩ : ∃ j : Nat, n % 3 = (j : Int) ∧ j < 3 := ⟨(n % 3).toNat, by omega, by omega⟩
    rw [hj] at HN
    clear hj
    obtain ⟨v, hv⟩ : ∃ v : Int, (#[.int .i64 (-1), .int .i64 65536, .int .i64 n] : Array Value)[j]? = some (.int .i64 v) := by
      rcases (by omega : j = 0 ∨ j = 1 ∨ j = 2) with rfl | rfl | rfl <;> exact ⟨_, rfl⟩
    have j0 : (0 : Int) ≤ (j : Int) := by omega
    have j1 : (j : Int) < 3 := by omega
    go_wp2_with fail
    refine (HN.out _).mono ?_
    rintro e wl ⟨rfl, rfl⟩
    have hq := ((Blk.new w4 3 #[.int .i64 (-1), .int .i64 65536, .int .i64 n]).at j).trans hv
    clear qG zG
    replace hG := hG.alloc (.cells #[.int .i64 (-1), .int .i64 65536, .int .i64 n] 3)
    have qG := hG.at
    unfold frBox at qG
    have zG := hG.frozen
    replace hD := hD.alloc (.cells #[.int .i64 (-1), .int .i64 65536, .int .i64 n] 3)
    replace hrg := hrg.alloc (.cells #[.int .i64 (-1), .int .i64 65536, .int .i64 n] 3)
    replace hB := hB.alloc hB.size (.cells #[.int .i64 (-1), .int .i64 65536, .int .i64 n] 3)
    go_upto_region 27 with fail
    replace hG : Blk ((w4.alloc (.cells #[.int .i64 (-1), .int .i64 65536, .int .i64 n] 3)).setCell ⟨gb, 1, none⟩ (.int .i64 v)) gb 29 (frBox ⟨g.K, v, g.S, g.P, g.E⟩ ga gc) := hG.set 1 _
    replace hD := hD.far (p := ⟨gb, 1, none⟩) (by show db ≠ gb; omega) (.int .i64 v)
    replace hrg := hrg.far2 gb 1 (.int .i64 v) hgne
    replace hB := hB.setCell (p := ⟨gb, 1, none⟩) (by show w.heap.size ≤ gb; omega) (.int .i64 v)
    generalize (w4.alloc (.cells #[.int .i64 (-1), .int .i64 65536, .int .i64 n] 3)).setCell ⟨gb, 1, none⟩ (.int .i64 v) = wx at *
    clear qG zG
    obtain ⟨g2, ga2, gc2, hG, hrg⟩ : ∃ (g2 : Fr) (ga2 : Option Addr) (gc2 : Nat), Blk wx gb 29 (frBox g2 ga2 gc2) ∧ RowT wx ga2 g2.E := ⟨_, _, _, hG, hrg⟩
    refine region_slots [some 117, some 118, some 119, some 120, some 121, some 122, some 123, some 10] [none, none, none, none, none, none, none, none] 124 8 rfl (by kernel_rfl) (by kernel_rfl) rfl rfl ?_
    apply step_fix
    · intro a W Zs hS hFm hz hd
      have h11 := hFm.old 11 rfl
      conv at h11 => rhs; whnf
      replace h11 := ev_get hFm.size h11
      have hq := (hD.drew1.later hS).at
      unfold confBox at hq
      refine .inl ⟨wanted_none rfl _, fun K hK => ?_⟩
      have HK := Lib.hid hK
      clear hd hFm hK
      go_simp
      exact HK.out _ _ rfl (Below.refl _ _)
    simp only [List.nil_append, List.cons_append]
    apply step_fix
    · intro a W Zs hS hFm hz hd
      have h12 := hFm.old 12 rfl
      conv at h12 => rhs; whnf
      replace h12 := ev_get hFm.size h12
      have hq := (hG.drew1.later hS).at
      unfold frBox at hq
      refine .inl ⟨wanted_none rfl _, fun K hK => ?_⟩
      have HK := Lib.hid hK
      clear hd hFm hK
      go_simp
      exact HK.out _ _ rfl (Below.refl _ _)
    simp only [List.nil_append, List.cons_append]
    apply step_fix
    · intro a W Zs hS hFm hz hd
      have h117 := ev_get hFm.size (hd 0 117 rfl rfl)
      have h118 := ev_get hFm.size (hd 1 118 rfl rfl)
      refine .inl ⟨wanted_none rfl _, fun K hK => ?_⟩
      have HK := Lib.hid hK
      clear hd hFm hK
      go_simp
      refine (HK1.out _ hok g2 ga2 gc2 (hrg.drew1.later hS)).mono ?_
      rintro e W' ⟨rfl, hb⟩
      exact HK.out _ _ rfl hb
    simp only [List.nil_append, List.cons_append]
    apply step_fix
    · intro a W Zs hS hFm hz hd
      have h11 := hFm.old 11 rfl
      conv at h11 => rhs; whnf
      replace h11 := ev_get hFm.size h11
      have hq := (hD.drew1.later hS).at
      unfold confBox at hq
      refine .inl ⟨wanted_none rfl _, fun K hK => ?_⟩
      have HK := Lib.hid hK
      clear hd hFm hK
      go_simp
      exact HK.out _ _ rfl (Below.refl _ _)
    simp only [List.nil_append, List.cons_append]
    apply step_fix
    · intro a W Zs hS hFm hz hd
      have h12 := hFm.old 12 rfl
      conv at h12 => rhs; whnf
      replace h12 := ev_get hFm.size h12
      have hq := (hG.drew1.later hS).at
      unfold frBox at hq
      refine .inl ⟨wanted_none rfl _, fun K hK => ?_⟩
      have HK := Lib.hid hK
      clear hd hFm hK
      go_simp
      exact HK.out _ _ rfl (Below.refl _ _)
    simp only [List.nil_append, List.cons_append]
    apply step_fix
    · intro a W Zs hS hFm hz hd
      have h120 := ev_get hFm.size (hd 3 120 rfl rfl)
      have h121 := ev_get hFm.size (hd 4 121 rfl rfl)
      refine .inl ⟨wanted_none rfl _, fun K hK => ?_⟩
      have HK := Lib.hid hK
      clear hd hFm hK
      go_simp
      refine (HK2.out _ hok g2 ga2 gc2 (hrg.drew1.later hS)).mono ?_
      rintro e W' ⟨rfl, hb⟩
      exact HK.out _ _ rfl hb
    simp only [List.nil_append, List.cons_append]
    apply step_fix
    · intro a W Zs hS hFm hz hd
      have h119 := ev_get hFm.size (hd 2 119 rfl rfl)
      have h122 := ev_get hFm.size (hd 5 122 rfl rfl)
      refine .inl ⟨wanted_none rfl _, fun K hK => ?_⟩
      have HK := Lib.hid hK
      clear hd hFm hK
      go_simp
      exact HK.out _ _ rfl (Below.refl _ _)
    simp only [List.nil_append, List.cons_append]
    apply step_fix
    · intro a W Zs hS hFm hz hd
      have h123 := ev_get hFm.size (hd 6 123 rfl rfl)
      refine .inl ⟨wanted_none rfl _, fun K hK => ?_⟩
      have HK := Lib.hid hK
      clear hd hFm hK
      go_simp
      exact HK.out _ _ rfl (Below.refl _ _)
    simp only [List.nil_append, List.cons_append]
    intro a w9 Zs hS hFm hz hd
    have e10 := hd 7 10 (by decide) rfl
    have e0 := hFm.old 0 rfl
    conv at e0 => rhs; whnf
    have e1 := hFm.old 1 rfl
    conv at e1 => rhs; whnf
    have e2 := hFm.old 2 rfl
    conv at e2 => rhs; whnf
    have e3 := hFm.old 3 rfl
    conv at e3 => rhs; whnf
    have e4 := hFm.old 4 rfl
    conv at e4 => rhs; whnf
    have e5 := hFm.old 5 rfl
    conv at e5 => rhs; whnf
    have e6 := hFm.old 6 rfl
    conv at e6 => rhs; whnf
    have e7 := hFm.old 7 rfl
    conv at e7 => rhs; whnf
    have e8 := hFm.old 8 rfl
    conv at e8 => rhs; whnf
    have e9 := hFm.old 9 rfl
    conv at e9 => rhs; whnf
    have e11 := hFm.old 11 rfl
    conv at e11 => rhs; whnf
    have e12 := hFm.old 12 rfl
    conv at e12 => rhs; whnf
    have e13 := hFm.old 13 rfl
    conv at e13 => rhs; whnf
    have e14 := hFm.old 14 rfl
    conv at e14 => rhs; whnf
    have e15 := hFm.old 15 rfl
    conv at e15 => rhs; whnf
    have e16 := hFm.old 16 rfl
    conv at e16 => rhs; whnf
    have e17 := hFm.old 17 rfl
    conv at e17 => rhs; whnf
    have e18 := hFm.old 18 rfl
    conv at e18 => rhs; whnf
    have e19 := hFm.old 19 rfl
    conv at e19 => rhs; whnf
    have e20 := hFm.old 20 rfl
    conv at e20 => rhs; whnf
    have e21 := hFm.old 21 rfl
    conv at e21 => rhs; whnf
    have e22 := hFm.old 22 rfl
    conv at e22 => rhs; whnf
    have e23 := hFm.old 23 rfl
    conv at e23 => rhs; whnf
    have e24 := hFm.old 24 rfl
    conv at e24 => rhs; whnf
    have e25 := hFm.old 25 rfl
    conv at e25 => rhs; whnf
    have e26 := hFm.old 26 rfl
    conv at e26 => rhs; whnf
    have e27 := hFm.old 27 rfl
    conv at e27 => rhs; whnf
    have e28 := hFm.old 28 rfl
    conv at e28 => rhs; whnf
    have e29 := hFm.old 29 rfl
    conv at e29 => rhs; whnf
    have e30 := hFm.old 30 rfl
    conv at e30 => rhs; whnf
    have e31 := hFm.old 31 rfl
    conv at e31 => rhs; whnf
    have e32 := hFm.old 32 rfl
    conv at e32 => rhs; whnf
    have e33 := hFm.old 33 rfl
    conv at e33 => rhs; whnf
    have e34 := hFm.old 34 rfl
    conv at e34 => rhs; whnf
    have e35 := hFm.old 35 rfl
    conv at e35 => rhs; whnf
    have e36 := hFm.old 36 rfl
    conv at e36 => rhs; whnf
    have e37 := hFm.old 37 rfl
    conv at e37 => rhs; whnf
    have e38 := hFm.old 38 rfl
    conv at e38 => rhs; whnf
    have e39 := hFm.old 39 rfl
    conv at e39 => rhs; whnf
    have e40 := hFm.old 40 rfl
    conv at e40 => rhs; whnf
    have e41 := hFm.old 41 rfl
    conv at e41 => rhs; whnf
    have e42 := hFm.old 42 rfl
    conv at e42 => rhs; whnf
    have e43 := hFm.old 43 rfl
    conv at e43 => rhs; whnf
    have e44 := hFm.old 44 rfl
    conv at e44 => rhs; whnf
    have e45 := hFm.old 45 rfl
    conv at e45 => rhs; whnf
    have e46 := hFm.old 46 rfl
    conv at e46 => rhs; whnf
    have e47 := hFm.old 47 rfl
    conv at e47 => rhs; whnf
    have e48 := hFm.old 48 rfl
    conv at e48 => rhs; whnf
    have e49 := hFm.old 49 rfl
    conv at e49 => rhs; whnf
    have e50 := hFm.old 50 rfl
    conv at e50 => rhs; whnf
    have e51 := hFm.old 51 rfl
    conv at e51 => rhs; whnf
    have e52 := hFm.old 52 rfl
    conv at e52 => rhs; whnf
    have e53 := hFm.old 53 rfl
    conv at e53 => rhs; whnf
    have e54 := hFm.old 54 rfl
    conv at e54 => rhs; whnf
    have e55 := hFm.old 55 rfl
    conv at e55 => rhs; whnf
    have e56 := hFm.old 56 rfl
    conv at e56 => rhs; whnf
    have e57 := hFm.old 57 rfl
    conv at e57 => rhs; whnf
    have e58 := hFm.old 58 rfl
    conv at e58 => rhs; whnf
    have e59 := hFm.old 59 rfl
    conv at e59 => rhs; whnf
    have e60 := hFm.old 60 rfl
    conv at e60 => rhs; whnf
    have e61 := hFm.old 61 rfl
    conv at e61 => rhs; whnf
    have e62 := hFm.old 62 rfl
    conv at e62 => rhs; whnf
    have e63 := hFm.old 63 rfl
    conv at e63 => rhs; whnf
    have e64 := hFm.old 64 rfl
    conv at e64 => rhs; whnf
    have e65 := hFm.old 65 rfl
    conv at e65 => rhs; whnf
    have e66 := hFm.old 66 rfl
    conv at e66 => rhs; whnf
    have e67 := hFm.old 67 rfl
    conv at e67 => rhs; whnf
    have e68 := hFm.old 68 rfl
    conv at e68 => rhs; whnf
    have e69 := hFm.old 69 rfl
    conv at e69 => rhs; whnf
    have e70 := hFm.old 70 rfl
    conv at e70 => rhs; whnf
    have e71 := hFm.old 71 rfl
    conv at e71 => rhs; whnf
    have e72 := hFm.old 72 rfl
    conv at e72 => rhs; whnf
    have e73 := hFm.old 73 rfl
    conv at e73 => rhs; whnf
    have e74 := hFm.old 74 rfl
    conv at e74 => rhs; whnf
    have e75 := hFm.old 75 rfl
    conv at e75 => rhs; whnf
    have e76 := hFm.old 76 rfl
    conv at e76 => rhs; whnf
    have e77 := hFm.old 77 rfl
    conv at e77 => rhs; whnf
    have e78 := hFm.old 78 rfl
    conv at e78 => rhs; whnf
    have e79 := hFm.old 79 rfl
    conv at e79 => rhs; whnf
    have e80 := hFm.old 80 rfl
    conv at e80 => rhs; whnf
    have e81 := hFm.old 81 rfl
    conv at e81 => rhs; whnf
    have e82 := hFm.old 82 rfl
    conv at e82 => rhs; whnf
    have e83 := hFm.old 83 rfl
    conv at e83 => rhs; whnf
    have e84 := hFm.old 84 rfl
    conv at e84 => rhs; whnf
    have e85 := hFm.old 85 rfl
    conv at e85 => rhs; whnf
    have e86 := hFm.old 86 rfl
    conv at e86 => rhs; whnf
    have e87 := hFm.old 87 rfl
    conv at e87 => rhs; whnf
    have e88 := hFm.old 88 rfl
    conv at e88 => rhs; whnf
    have e89 := hFm.old 89 rfl
    conv at e89 => rhs; whnf
    have e90 := hFm.old 90 rfl
    conv at e90 => rhs; whnf
    have e91 := hFm.old 91 rfl
    conv at e91 => rhs; whnf
    have e92 := hFm.old 92 rfl
    conv at e92 => rhs; whnf
    have e93 := hFm.old 93 rfl
    conv at e93 => rhs; whnf
    have e94 := hFm.old 94 rfl
    conv at e94 => rhs; whnf
    have e95 := hFm.old 95 rfl
    conv at e95 => rhs; whnf
    have e96 := hFm.old 96 rfl
    conv at e96 => rhs; whnf
    have e97 := hFm.old 97 rfl
    conv at e97 => rhs; whnf
    have e98 := hFm.old 98 rfl
    conv at e98 => rhs; whnf
    have e99 := hFm.old 99 rfl
    conv at e99 => rhs; whnf
    have e100 := hFm.old 100 rfl
    conv at e100 => rhs; whnf
    have e101 := hFm.old 101 rfl
    conv at e101 => rhs; whnf
    have e102 := hFm.old 102 rfl
    conv at e102 => rhs; whnf
    have e103 := hFm.old 103 rfl
    conv at e103 => rhs; whnf
    have e104 := hFm.old 104 rfl
    conv at e104 => rhs; whnf
    have e105 := hFm.old 105 rfl
    conv at e105 => rhs; whnf
    have e106 := hFm.old 106 rfl
    conv at e106 => rhs; whnf
    have e107 := hFm.old 107 rfl
    conv at e107 => rhs; whnf
    have e108 := hFm.old 108 rfl
    conv at e108 => rhs; whnf
    have e109 := hFm.old 109 rfl
    conv at e109 => rhs; whnf
    have e110 := hFm.old 110 rfl
    conv at e110 => rhs; whnf
    have e111 := hFm.old 111 rfl
    conv at e111 => rhs; whnf
    have e112 := hFm.old 112 rfl
    conv at e112 => rhs; whnf
    have e113 := hFm.old 113 rfl
    conv at e113 => rhs; whnf
    have e114 := hFm.old 114 rfl
    conv at e114 => rhs; whnf
    have e115 := hFm.old 115 rfl
    conv at e115 => rhs; whnf
    have e116 := hFm.old 116 rfl
    conv at e116 => rhs; whnf
    have hsz := hFm.size
    have hdf := hFm.defers
    clear hd hFm
    obtain ⟨t, df⟩ := a
    simp only at hsz hdf
    subst hdf
    obtain ⟨x, hx⟩ : ∃ x : Nat → Value, ∀ i, t.getD i undef = x i := ⟨fun i => t.getD i undef, fun _ => rfl⟩
    have h10 := (hx 10).symm.trans e10
    have h0 := (hx 0).symm.trans e0
    have h1 := (hx 1).symm.trans e1
    have h2 := (hx 2).symm.trans e2
    have h3 := (hx 3).symm.trans e3
    have h4 := (hx 4).symm.trans e4
    have h5 := (hx 5).symm.trans e5
    have h6 := (hx 6).symm.trans e6
    have h7 := (hx 7).symm.trans e7
    have h8 := (hx 8).symm.trans e8
    have h9 := (hx 9).symm.trans e9
    have h11 := (hx 11).symm.trans e11
    have h12 := (hx 12).symm.trans e12
    have h13 := (hx 13).symm.trans e13
    have h14 := (hx 14).symm.trans e14
    have h15 := (hx 15).symm.trans e15
    have h16 := (hx 16).symm.trans e16
    have h17 := (hx 17).symm.trans e17
    have h18 := (hx 18).symm.trans e18
    have h19 := (hx 19).symm.trans e19
    have h20 := (hx 20).symm.trans e20
    have h21 := (hx 21).symm.trans e21
    have h22 := (hx 22).symm.trans e22
    have h23 := (hx 23).symm.trans e23
    have h24 := (hx 24).symm.trans e24
    have h25 := (hx 25).symm.trans e25
    have h26 := (hx 26).symm.trans e26
    have h27 := (hx 27).symm.trans e27
    have h28 := (hx 28).symm.trans e28
    have h29 := (hx 29).symm.trans e29
    have h30 := (hx 30).symm.trans e30
    have h31 := (hx 31).symm.trans e31
    have h32 := (hx 32).symm.trans e32
    have h33 := (hx 33).symm.trans e33
    have h34 := (hx 34).symm.trans e34
    have h35 := (hx 35).symm.trans e35
    have h36 := (hx 36).symm.trans e36
    have h37 := (hx 37).symm.trans e37
    have h38 := (hx 38).symm.trans e38
    have h39 := (hx 39).symm.trans e39
    have h40 := (hx 40).symm.trans e40
    have h41 := (hx 41).symm.trans e41
    have h42 := (hx 42).symm.trans e42
    have h43 := (hx 43).symm.trans e43
    have h44 := (hx 44).symm.trans e44
    have h45 := (hx 45).symm.trans e45
    have h46 := (hx 46).symm.trans e46
    have h47 := (hx 47).symm.trans e47
    have h48 := (hx 48).symm.trans e48
    have h49 := (hx 49).symm.trans e49
    have h50 := (hx 50).symm.trans e50
    have h51 := (hx 51).symm.trans e51
    have h52 := (hx 52).symm.trans e52
    have h53 := (hx 53).symm.trans e53
    have h54 := (hx 54).symm.trans e54
    have h55 := (hx 55).symm.trans e55
    have h56 := (hx 56).symm.trans e56
    have h57 := (hx 57).symm.trans e57
    have h58 := (hx 58).symm.trans e58
    have h59 := (hx 59).symm.trans e59
    have h60 := (hx 60).symm.trans e60
    have h61 := (hx 61).symm.trans e61
    have h62 := (hx 62).symm.trans e62
    have h63 := (hx 63).symm.trans e63
    have h64 := (hx 64).symm.trans e64
    have h65 := (hx 65).symm.trans e65
    have h66 := (hx 66).symm.trans e66
    have h67 := (hx 67).symm.trans e67
    have h68 := (hx 68).symm.trans e68
    have h69 := (hx 69).symm.trans e69
    have h70 := (hx 70).symm.trans e70
    have h71 := (hx 71).symm.trans e71
    have h72 := (hx 72).symm.trans e72
    have h73 := (hx 73).symm.trans e73
    have h74 := (hx 74).symm.trans e74
    have h75 := (hx 75).symm.trans e75
    have h76 := (hx 76).symm.trans e76
    have h77 := (hx 77).symm.trans e77
    have h78 := (hx 78).symm.trans e78
    have h79 := (hx 79).symm.trans e79
    have h80 := (hx 80).symm.trans e80
    have h81 := (hx 81).symm.trans e81
    have h82 := (hx 82).symm.trans e82
    have h83 := (hx 83).symm.trans e83
    have h84 := (hx 84).symm.trans e84
    have h85 := (hx 85).symm.trans e85
    have h86 := (hx 86).symm.trans e86
    have h87 := (hx 87).symm.trans e87
    have h88 := (hx 88).symm.trans e88
    have h89 := (hx 89).symm.trans e89
    have h90 := (hx 90).symm.trans e90
    have h91 := (hx 91).symm.trans e91
    have h92 := (hx 92).symm.trans e92
    have h93 := (hx 93).symm.trans e93
    have h94 := (hx 94).symm.trans e94
    have h95 := (hx 95).symm.trans e95
    have h96 := (hx 96).symm.trans e96
    have h97 := (hx 97).symm.trans e97
    have h98 := (hx 98).symm.trans e98
    have h99 := (hx 99).symm.trans e99
    have h100 := (hx 100).symm.trans e100
    have h101 := (hx 101).symm.trans e101
    have h102 := (hx 102).symm.trans e102
    have h103 := (hx 103).symm.trans e103
    have h104 := (hx 104).symm.trans e104
    have h105 := (hx 105).symm.trans e105
    have h106 := (hx 106).symm.trans e106
    have h107 := (hx 107).symm.trans e107
    have h108 := (hx 108).symm.trans e108
    have h109 := (hx 109).symm.trans e109
    have h110 := (hx 110).symm.trans e110
    have h111 := (hx 111).symm.trans e111
    have h112 := (hx 112).symm.trans e112
    have h113 := (hx 113).symm.trans e113
    have h114 := (hx 114).symm.trans e114
    have h115 := (hx 115).symm.trans e115
    have h116 := (hx 116).symm.trans e116
    have ht' : t = #[x 0, x 1, x 2, x 3, x 4, x 5, x 6, x 7, x 8, x 9, x 10, x 11, x 12, x 13, x 14, x 15, x 16, x 17, x 18, x 19, x 20, x 21, x 22, x 23, x 24, x 25, x 26, x 27, x 28, x 29, x 30, x 31, x 32, x 33, x 34, x 35, x 36, x 37, x 38, x 39, x 40, x 41, x 42, x 43, x 44, x 45, x 46, x 47, x 48, x 49, x 50, x 51, x 52, x 53, x 54, x 55, x 56, x 57, x 58, x 59, x 60, x 61, x 62, x 63, x 64, x 65, x 66, x 67, x 68, x 69, x 70, x 71, x 72, x 73, x 74, x 75, x 76, x 77, x 78, x 79, x 80, x 81, x 82, x 83, x 84, x 85, x 86, x 87, x 88, x 89, x 90, x 91, x 92, x 93, x 94, x 95, x 96, x 97, x 98, x 99, x 100, x 101, x 102, x 103, x 104, x 105, x 106, x 107, x 108, x 109, x 110, x 111, x 112, x 113, x 114, x 115, x 116, x 117, x 118, x 119, x 120, x 121, x 122, x 123] := frame_lit t 124 hsz x hx
    clear hx hsz hz e10 e0 e1 e2 e3 e4 e5 e6 e7 e8 e9 e11 e12 e13 e14 e15 e16 e17 e18 e19 e20 e21 e22 e23 e24 e25 e26 e27 e28 e29 e30 e31 e32 e33 e34 e35 e36 e37 e38 e39 e40 e41 e42 e43 e44 e45 e46 e47 e48 e49 e50 e51 e52 e53 e54 e55 e56 e57 e58 e59 e60 e61 e62 e63 e64 e65 e66 e67 e68 e69 e70 e71 e72 e73 e74 e75 e76 e77 e78 e79 e80 e81 e82 e83 e84 e85 e86 e87 e88 e89 e90 e91 e92 e93 e94 e95 e96 e97 e98 e99 e100 e101 e102 e103 e104 e105 e106 e107 e108 e109 e110 e111 e112 e113 e114 e115 e116
    subst ht'
    dsimp only
    rw [h10, h0, h1, h2, h3, h4, h5, h6, h7, h8, h9, h11, h12, h13, h14, h15, h16, h17, h18, h19, h20, h21, h22, h23, h24, h25, h26, h27, h28, h29, h30, h31, h32, h33, h34, h35, h36, h37, h38, h39, h40, h41, h42, h43, h44, h45, h46, h47, h48, h49, h50, h51, h52, h53, h54, h55, h56, h57, h58, h59, h60, h61, h62, h63, h64, h65, h66, h67, h68, h69, h70, h71, h72, h73, h74, h75, h76, h77, h78, h79, h80, h81, h82, h83, h84, h85, h86, h87, h88, h89, h90, h91, h92, h93, h94, h95, h96, h97, h98, h99, h100, h101, h102, h103, h104, h105, h106, h107, h108, h109, h110, h111, h112, h113, h114, h115, h116]
    clear h10 h0 h1 h2 h3 h4 h5 h6 h7 h8 h9 h11 h12 h13 h14 h15 h16 h17 h18 h19 h20 h21 h22 h23 h24 h25 h26 h27 h28 h29 h30 h31 h32 h33 h34 h35 h36 h37 h38 h39 h40 h41 h42 h43 h44 h45 h46 h47 h48 h49 h50 h51 h52 h53 h54 h55 h56 h57 h58 h59 h60 h61 h62 h63 h64 h65 h66 h67 h68 h69 h70 h71 h72 h73 h74 h75 h76 h77 h78 h79 h80 h81 h82 h83 h84 h85 h86 h87 h88 h89 h90 h91 h92 h93 h94 h95 h96 h97 h98 h99 h100 h101 h102 h103 h104 h105 h106 h107 h108 h109 h110 h111 h112 h113 h114 h115 h116
    have hb9 := from_drew hS
    replace hB := hB.trans (hb9.mono hB.size)
    go_wp2
    go_ret
    exact ⟨rfl, hB⟩
  · rw [hi] at HW
    clear hi
    go_wp2_with fail
    refine (HW.out _).mono ?_
    rintro e wl ⟨rfl, rfl⟩
    have qG := hG.at
    unfold frBox at qG
    have zG := hG.frozen
    have HN := Lib.hid (fun W => within5_any n 4 W (by omega) (by omega))
    obtain ⟨j, hj, hjm⟩ : ∃ j : Nat, n % 4 = (j : Int) ∧ j < 4 := ⟨(n % 4).toNat, by omega, by omega⟩
    rw [hj] at HN
    clear hj
    obtain ⟨v, hv⟩ : ∃ v : Int, (#[.int .i64 (-1), .int .i64 (slotsI d), .int .i64 n, .int .i64 d.N] : Array Value)[j]? = some (.int .i64 v) := by
      rcases (by omega : j = 0 ∨ j = 1 ∨ j = 2 ∨ j = 3) with rfl | rfl | rfl | rfl <;> exact ⟨_, rfl⟩
    have j0 : (0 : Int) ≤ (j : Int) := by omega
    have j1 : (j : Int) < 4 := by omega
    have HS := Lib.hid (fun W => rslots_any d da dc W hok)
    generalize hsl : slotsI d = sl at *
    clear hsl
    clear qG zG
    go_upto_region 15 with fail
    refine region_tail [some 60, some 61, some 62, some 63, some 64, some 65, some 66, some 67, some 68, some 69, some 70, none] [none, none, none, none, none, none, none, none, none, none, none, none] 124 11 (by kernel_rfl) (by kernel_rfl) rfl rfl ?_
    simp only [List.take_succ_cons, List.take_zero, List.drop_succ_cons, List.drop_zero]
    apply step_fix
    · intro a W Zs hS hFm hz hd
      have h11 := hFm.old 11 rfl
      conv at h11 => rhs; whnf
      replace h11 := ev_get hFm.size h11
      have hq := (hD.drew1.later hS).at
      unfold confBox at hq
      refine .inl ⟨wanted_none rfl _, fun K hK => ?_⟩
      have HK := Lib.hid hK
      clear hd hFm hK
      go_simp
      exact HK.out _ _ rfl (Below.refl _ _)
    simp only [List.nil_append, List.cons_append]
    apply step_fix
    · intro a W Zs hS hFm hz hd
      have h60 := ev_get hFm.size (hd 0 60 rfl rfl)
      refine .inl ⟨wanted_none rfl _, fun K hK => ?_⟩
      have HK := Lib.hid hK
      clear hd hFm hK
      go_simp
      refine (HS.out _).mono ?_
      rintro e W' ⟨rfl, hb⟩
      exact HK.out _ _ rfl hb
    simp only [List.nil_append, List.cons_append]
    apply step_fix
    · intro a W Zs hS hFm hz hd
      have h4 := hFm.old 4 rfl
      conv at h4 => rhs; whnf
      replace h4 := ev_get hFm.size h4
      refine .inl ⟨wanted_none rfl _, fun K hK => ?_⟩
      have HK := Lib.hid hK
      clear hd hFm hK
      go_simp
      exact HK.out _ _ rfl (Below.refl _ _)
    simp only [List.nil_append, List.cons_append]
    apply step_fix
    · intro a W Zs hS hFm hz hd
      have h11 := hFm.old 11 rfl
      conv at h11 => rhs; whnf
      replace h11 := ev_get hFm.size h11
      refine .inl ⟨wanted_none rfl _, fun K hK => ?_⟩
      have HK := Lib.hid hK
      clear hd hFm hK
      go_simp
      exact HK.out _ _ rfl (Below.refl _ _)
    simp only [List.nil_append, List.cons_append]
    apply step_fix
    · intro a W Zs hS hFm hz hd
      have h63 := ev_get hFm.size (hd 3 63 rfl rfl)
      have hq := (hD.drew1.later hS).at
      unfold confBox at hq
      refine .inl ⟨wanted_none rfl _, fun K hK => ?_⟩
      have HK := Lib.hid hK
      clear hd hFm hK
      go_simp
      exact HK.out _ _ rfl (Below.refl _ _)
    simp only [List.nil_append, List.cons_append]
    apply step_blk
    · intro a W Zs hS hFm hz hd
      have h61 := ev_get hFm.size (hd 1 61 rfl rfl)
      have h62 := ev_get hFm.size (hd 2 62 rfl rfl)
      have h64 := ev_get hFm.size (hd 4 64 rfl rfl)
      refine .inl ⟨wanted_none rfl _, fun K hK => ?_⟩
      have HK := Lib.hid hK
      clear hd hFm hK
      go_simp
      exact HK.out _ _ ⟨_, rfl, Blk.new _ _ _, .inr (.inl ⟨Nat.le_refl _, by simp⟩)⟩ (alloc_below _ _)
    simp only [List.nil_append, List.cons_append]
    apply step_fix
    · intro a W Zs hS hFm hz hd
      have h4 := hFm.old 4 rfl
      conv at h4 => rhs; whnf
      replace h4 := ev_get hFm.size h4
      refine .inl ⟨wanted_none rfl _, fun K hK => ?_⟩
      have HK := Lib.hid hK
      clear hd hFm hK
      go_simp
      exact HK.out _ _ rfl (Below.refl _ _)
    simp only [List.nil_append, List.cons_append]
    apply step_fix
    · intro a W Zs hS hFm hz hd
      have h66 := ev_get hFm.size (hd 6 66 rfl rfl)
      refine .inl ⟨wanted_none rfl _, fun K hK => ?_⟩
      have HK := Lib.hid hK
      clear hd hFm hK
      go_simp
      refine (HN.out _).mono ?_
      rintro e W' ⟨rfl, rfl⟩
      exact HK.out _ _ rfl (Below.refl _ _)
    simp only [List.nil_append, List.cons_append]
    apply step_ptr
    · intro a W Zs hS hFm hz hd
      obtain ⟨b65, e65, q65, f65⟩ := hd 5 65 rfl rfl
      have h65 := ev_get hFm.size e65
      have h67 := ev_get hFm.size (hd 7 67 rfl rfl)
      refine .inl ⟨wanted_none rfl _, fun K hK => ?_⟩
      have HK := Lib.hid hK
      clear hd hFm hK
      go_simp
      exact HK.out _ _ ⟨b65, rfl, q65, f65.imp id (foot_dep 5 rfl rfl rfl _)⟩ (Below.refl _ _)
    simp only [List.nil_append, List.cons_append]
    apply step_fix
    · intro a W Zs hS hFm hz hd
      obtain ⟨b68, e68, q68, f68⟩ := hd 8 68 rfl rfl
      have h68 := ev_get hFm.size e68
      have hq2 := (q68.at j).trans hv
      refine .inl ⟨wanted_none rfl _, fun K hK => ?_⟩
      have HK := Lib.hid hK
      clear hd hFm hK
      go_simp
      exact HK.out _ _ rfl (Below.refl _ _)
    simp only [List.nil_append, List.cons_append]
    apply step_fix
    · intro a W Zs hS hFm hz hd
      have h12 := hFm.old 12 rfl
      conv at h12 => rhs; whnf
      replace h12 := ev_get hFm.size h12
      refine .inl ⟨wanted_none rfl _, fun K hK => ?_⟩
      have HK := Lib.hid hK
      clear hd hFm hK
      go_simp
      exact HK.out _ _ rfl (Below.refl _ _)
    simp only [List.nil_append, List.cons_append]
    intro a w5 Zs hS hFm hz hd
    have e69 := hd 9 69 (by decide) rfl
    have e70 := hd 10 70 (by decide) rfl
    have e0 := hFm.old 0 rfl
    conv at e0 => rhs; whnf
    have e1 := hFm.old 1 rfl
    conv at e1 => rhs; whnf
    have e2 := hFm.old 2 rfl
    conv at e2 => rhs; whnf
    have e3 := hFm.old 3 rfl
    conv at e3 => rhs; whnf
    have e4 := hFm.old 4 rfl
    conv at e4 => rhs; whnf
    have e5 := hFm.old 5 rfl
    conv at e5 => rhs; whnf
    have e6 := hFm.old 6 rfl
    conv at e6 => rhs; whnf
    have e7 := hFm.old 7 rfl
    conv at e7 => rhs; whnf
    have e8 := hFm.old 8 rfl
    conv at e8 => rhs; whnf
    have e9 := hFm.old 9 rfl
    conv at e9 => rhs; whnf
    have e10 := hFm.old 10 rfl
    conv at e10 => rhs; whnf
    have e11 := hFm.old 11 rfl
    conv at e11 => rhs; whnf
    have e12 := hFm.old 12 rfl
    conv at e12 => rhs; whnf
    have e13 := hFm.old 13 rfl
    conv at e13 => rhs; whnf
    have e14 := hFm.old 14 rfl
    conv at e14 => rhs; whnf
    have e15 := hFm.old 15 rfl
    conv at e15 => rhs; whnf
    have e16 := hFm.old 16 rfl
    conv at e16 => rhs; whnf
    have e17 := hFm.old 17 rfl
    conv at e17 => rhs; whnf
    have e18 := hFm.old 18 rfl
    conv at e18 => rhs; whnf
    have e19 := hFm.old 19 rfl
    conv at e19 => rhs; whnf
    have e20 := hFm.old 20 rfl
    conv at e20 => rhs; whnf
    have e21 := hFm.old 21 rfl
    conv at e21 => rhs; whnf
    have e22 := hFm.old 22 rfl
    conv at e22 => rhs; whnf
    have e23 := hFm.old 23 rfl
    conv at e23 => rhs; whnf
    have e24 := hFm.old 24 rfl
    conv at e24 => rhs; whnf
    have e25 := hFm.old 25 rfl
    conv at e25 => rhs; whnf
    have e26 := hFm.old 26 rfl
    conv at e26 => rhs; whnf
    have e27 := hFm.old 27 rfl
    conv at e27 => rhs; whnf
    have e28 := hFm.old 28 rfl
    conv at e28 => rhs; whnf
    have e29 := hFm.old 29 rfl
    conv at e29 => rhs; whnf
    have e30 := hFm.old 30 rfl
    conv at e30 => rhs; whnf
    have e31 := hFm.old 31 rfl
    conv at e31 => rhs; whnf
    have e32 := hFm.old 32 rfl
    conv at e32 => rhs; whnf
    have e33 := hFm.old 33 rfl
    conv at e33 => rhs; whnf
    have e34 := hFm.old 34 rfl
    conv at e34 => rhs; whnf
    have e35 := hFm.old 35 rfl
    conv at e35 => rhs; whnf
    have e36 := hFm.old 36 rfl
    conv at e36 => rhs; whnf
    have e37 := hFm.old 37 rfl
    conv at e37 => rhs; whnf
    have e38 := hFm.old 38 rfl
    conv at e38 => rhs; whnf
    have e39 := hFm.old 39 rfl
    conv at e39 => rhs; whnf
    have e40 := hFm.old 40 rfl
    conv at e40 => rhs; whnf
    have e41 := hFm.old 41 rfl
    conv at e41 => rhs; whnf
    have e42 := hFm.old 42 rfl
    conv at e42 => rhs; whnf
    have e43 := hFm.old 43 rfl
    conv at e43 => rhs; whnf
    have e44 := hFm.old 44 rfl
    conv at e44 => rhs; whnf
    have e45 := hFm.old 45 rfl
    conv at e45 => rhs; whnf
    have e46 := hFm.old 46 rfl
    conv at e46 => rhs; whnf
    have e47 := hFm.old 47 rfl
    conv at e47 => rhs; whnf
    have e48 := hFm.old 48 rfl
    conv at e48 => rhs; whnf
    have e49 := hFm.old 49 rfl
    conv at e49 => rhs; whnf
    have e50 := hFm.old 50 rfl
    conv at e50 => rhs; whnf
    have e51 := hFm.old 51 rfl
    conv at e51 => rhs; whnf
    have e52 := hFm.old 52 rfl
    conv at e52 => rhs; whnf
    have e53 := hFm.old 53 rfl
    conv at e53 => rhs; whnf
    have e54 := hFm.old 54 rfl
    conv at e54 => rhs; whnf
    have e55 := hFm.old 55 rfl
    conv at e55 => rhs; whnf
    have e56 := hFm.old 56 rfl
    conv at e56 => rhs; whnf
    have e57 := hFm.old 57 rfl
    conv at e57 => rhs; whnf
    have e58 := hFm.old 58 rfl
    conv at e58 => rhs; whnf
    have e59 := hFm.old 59 rfl
    conv at e59 => rhs; whnf
    have e71 := hFm.old 71 rfl
    conv at e71 => rhs; whnf
    have e72 := hFm.old 72 rfl
    conv at e72 => rhs; whnf
    have e73 := hFm.old 73 rfl
    conv at e73 => rhs; whnf
    have e74 := hFm.old 74 rfl
    conv at e74 => rhs; whnf
    have e75 := hFm.old 75 rfl
    conv at e75 => rhs; whnf
    have e76 := hFm.old 76 rfl
    conv at e76 => rhs; whnf
    have e77 := hFm.old 77 rfl
    conv at e77 => rhs; whnf
    have e78 := hFm.old 78 rfl
    conv at e78 => rhs; whnf
    have e79 := hFm.old 79 rfl
    conv at e79 => rhs; whnf
    have e80 := hFm.old 80 rfl
    conv at e80 => rhs; whnf
    have e81 := hFm.old 81 rfl
    conv at e81 => rhs; whnf
    have e82 := hFm.old 82 rfl
    conv at e82 => rhs; whnf
    have e83 := hFm.old 83 rfl
    conv at e83 => rhs; whnf
    have e84 := hFm.old 84 rfl
    conv at e84 => rhs; whnf
    have e85 := hFm.old 85 rfl
    conv at e85 => rhs; whnf
    have e86 := hFm.old 86 rfl
    conv at e86 => rhs; whnf
    have e87 := hFm.old 87 rfl
    conv at e87 => rhs; whnf
    have e88 := hFm.old 88 rfl
    conv at e88 => rhs; whnf
    have e89 := hFm.old 89 rfl
    conv at e89 => rhs; whnf
    have e90 := hFm.old 90 rfl
    conv at e90 => rhs; whnf
    have e91 := hFm.old 91 rfl
    conv at e91 => rhs; whnf
    have e92 := hFm.old 92 rfl
    conv at e92 => rhs; whnf
    have e93 := hFm.old 93 rfl
    conv at e93 => rhs; whnf
    have e94 := hFm.old 94 rfl
    conv at e94 => rhs; whnf
    have e95 := hFm.old 95 rfl
    conv at e95 => rhs; whnf
    have e96 := hFm.old 96 rfl
    conv at e96 => rhs; whnf
    have e97 := hFm.old 97 rfl
    conv at e97 => rhs; whnf
    have e98 := hFm.old 98 rfl
    conv at e98 => rhs; whnf
    have e99 := hFm.old 99 rfl
    conv at e99 => rhs; whnf
    have e100 := hFm.old 100 rfl
    conv at e100 => rhs; whnf
    have e101 := hFm.old 101 rfl
    conv at e101 => rhs; whnf
    have e102 := hFm.old 102 rfl
    conv at e102 => rhs; whnf
    have e103 := hFm.old 103 rfl
    conv at e103 => rhs; whnf
    have e104 := hFm.old 104 rfl
    conv at e104 => rhs; whnf
    have e105 := hFm.old 105 rfl
    conv at e105 => rhs; whnf
    have e106 := hFm.old 106 rfl
    conv at e106 => rhs; whnf
    have e107 := hFm.old 107 rfl
    conv at e107 => rhs; whnf
    have e108 := hFm.old 108 rfl
    conv at e108 => rhs; whnf
    have e109 := hFm.old 109 rfl
    conv at e109 => rhs; whnf
    have e110 := hFm.old 110 rfl
    conv at e110 => rhs; whnf
    have e111 := hFm.old 111 rfl
    conv at e111 => rhs; whnf
    have e112 := hFm.old 112 rfl
    conv at e112 => rhs; whnf
    have e113 := hFm.old 113 rfl
    conv at e113 => rhs; whnf
    have e114 := hFm.old 114 rfl
    conv at e114 => rhs; whnf
    have e115 := hFm.old 115 rfl
    conv at e115 => rhs; whnf
    have e116 := hFm.old 116 rfl
    conv at e116 => rhs; whnf
    have e117 := hFm.old 117 rfl
    conv at e117 => rhs; whnf
    have e118 := hFm.old 118 rfl
    conv at e118 => rhs; whnf
    have e119 := hFm.old 119 rfl
    conv at e119 => rhs; whnf
    have e120 := hFm.old 120 rfl
    conv at e120 => rhs; whnf
    have e121 := hFm.old 121 rfl
    conv at e121 => rhs; whnf
    have e122 := hFm.old 122 rfl
    conv at e122 => rhs; whnf
    have e123 := hFm.old 123 rfl
    conv at e123 => rhs; whnf
    have hsz := hFm.size
    have hdf := hFm.defers
    clear hd hFm
    obtain ⟨t, df⟩ := a
    simp only at hsz hdf
    subst hdf
    obtain ⟨x, hx⟩ : ∃ x : Nat → Value, ∀ i, t.getD i undef = x i := ⟨fun i => t.getD i undef, fun _ => rfl⟩
    have h69 := (hx 69).symm.trans e69
    have h70 := (hx 70).symm.trans e70
    have h0 := (hx 0).symm.trans e0
    have h1 := (hx 1).symm.trans e1
    have h2 := (hx 2).symm.trans e2
    have h3 := (hx 3).symm.trans e3
    have h4 := (hx 4).symm.trans e4
    have h5 := (hx 5).symm.trans e5
    have h6 := (hx 6).symm.trans e6
    have h7 := (hx 7).symm.trans e7
    have h8 := (hx 8).symm.trans e8
    have h9 := (hx 9).symm.trans e9
    have h10 := (hx 10).symm.trans e10
    have h11 := (hx 11).symm.trans e11
    have h12 := (hx 12).symm.trans e12
    have h13 := (hx 13).symm.trans e13
    have h14 := (hx 14).symm.trans e14
    have h15 := (hx 15).symm.trans e15
    have h16 := (hx 16).symm.trans e16
    have h17 := (hx 17).symm.trans e17
    have h18 := (hx 18).symm.trans e18
    have h19 := (hx 19).symm.trans e19
    have h20 := (hx 20).symm.trans e20
    have h21 := (hx 21).symm.trans e21
    have h22 := (hx 22).symm.trans e22
    have h23 := (hx 23).symm.trans e23
    have h24 := (hx 24).symm.trans e24
    have h25 := (hx 25).symm.trans e25
    have h26 := (hx 26).symm.trans e26
    have h27 := (hx 27).symm.trans e27
    have h28 := (hx 28).symm.trans e28
    have h29 := (hx 29).symm.trans e29
    have h30 := (hx 30).symm.trans e30
    have h31 := (hx 31).symm.trans e31
    have h32 := (hx 32).symm.trans e32
    have h33 := (hx 33).symm.trans e33
    have h34 := (hx 34).symm.trans e34
    have h35 := (hx 35).symm.trans e35
    have h36 := (hx 36).symm.trans e36
    have h37 := (hx 37).symm.trans e37
    have h38 := (hx 38).symm.trans e38
    have h39 := (hx 39).symm.trans e39
    have h40 := (hx 40).symm.trans e40
    have h41 := (hx 41).symm.trans e41
    have h42 := (hx 42).symm.trans e42
    have h43 := (hx 43).symm.trans e43
    have h44 := (hx 44).symm.trans e44
    have h45 := (hx 45).symm.trans e45
    have h46 := (hx 46).symm.trans e46
    have h47 := (hx 47).symm.trans e47
    have h48 := (hx 48).symm.trans e48
    have h49 := (hx 49).symm.trans e49
    have h50 := (hx 50).symm.trans e50
    have h51 := (hx 51).symm.trans e51
    have h52 := (hx 52).symm.trans e52
    have h53 := (hx 53).symm.trans e53
    have h54 := (hx 54).symm.trans e54
    have h55 := (hx 55).symm.trans e55
    have h56 := (hx 56).symm.trans e56
    have h57 := (hx 57).symm.trans e57
    have h58 := (hx 58).symm.trans e58
    have h59 := (hx 59).symm.trans e59
    have h71 := (hx 71).symm.trans e71
    have h72 := (hx 72).symm.trans e72
    have h73 := (hx 73).symm.trans e73
    have h74 := (hx 74).symm.trans e74
    have h75 := (hx 75).symm.trans e75
    have h76 := (hx 76).symm.trans e76
    have h77 := (hx 77).symm.trans e77
    have h78 := (hx 78).symm.trans e78
    have h79 := (hx 79).symm.trans e79
    have h80 := (hx 80).symm.trans e80
    have h81 := (hx 81).symm.trans e81
    have h82 := (hx 82).symm.trans e82
    have h83 := (hx 83).symm.trans e83
    have h84 := (hx 84).symm.trans e84
    have h85 := (hx 85).symm.trans e85
    have h86 := (hx 86).symm.trans e86
    have h87 := (hx 87).symm.trans e87
    have h88 := (hx 88).symm.trans e88
    have h89 := (hx 89).symm.trans e89
    have h90 := (hx 90).symm.trans e90
    have h91 := (hx 91).symm.trans e91
    have h92 := (hx 92).symm.trans e92
    have h93 := (hx 93).symm.trans e93
    have h94 := (hx 94).symm.trans e94
    have h95 := (hx 95).symm.trans e95
    have h96 := (hx 96).symm.trans e96
    have h97 := (hx 97).symm.trans e97
    have h98 := (hx 98).symm.trans e98
    have h99 := (hx 99).symm.trans e99
    have h100 := (hx 100).symm.trans e100
    have h101 := (hx 101).symm.trans e101
    have h102 := (hx 102).symm.trans e102
    have h103 := (hx 103).symm.trans e103
    have h104 := (hx 104).symm.trans e104
    have h105 := (hx 105).symm.trans e105
    have h106 := (hx 106).symm.trans e106
    have h107 := (hx 107).symm.trans e107
    have h108 := (hx 108).symm.trans e108
    have h109 := (hx 109).symm.trans e109
    have h110 := (hx 110).symm.trans e110
    have h111 := (hx 111).symm.trans e111
    have h112 := (hx 112).symm.trans e112
    have h113 := (hx 113).symm.trans e113
    have h114 := (hx 114).symm.trans e114
    have h115 := (hx 115).symm.trans e115
    have h116 := (hx 116).symm.trans e116
    have h117 := (hx 117).symm.trans e117
    have h118 := (hx 118).symm.trans e118
    have h119 := (hx 119).symm.trans e119
    have h120 := (hx 120).symm.trans e120
    have h121 := (hx 121).symm.trans e121
    have h122 := (hx 122).symm.trans e122
    have h123 := (hx 123).symm.trans e123
    have ht' : t = #[x 0, x 1, x 2, x 3, x 4, x 5, x 6, x 7, x 8, x 9, x 10, x 11, x 12, x 13, x 14, x 15, x 16, x 17, x 18, x 19, x 20, x 21, x 22, x 23, x 24, x 25, x 26, x 27, x 28, x 29, x 30, x 31, x 32, x 33, x 34, x 35, x 36, x 37, x 38, x 39, x 40, x 41, x 42, x 43, x 44, x 45, x 46, x 47, x 48, x 49, x 50, x 51, x 52, x 53, x 54, x 55, x 56, x 57, x 58, x 59, x 60, x 61, x 62, x 63, x 64, x 65, x 66, x 67, x 68, x 69, x 70, x 71, x 72, x 73, x 74, x 75, x 76, x 77, x 78, x 79, x 80, x 81, x 82, x 83, x 84, x 85, x 86, x 87, x 88, x 89, x 90, x 91, x 92, x 93, x 94, x 95, x 96, x 97, x 98, x 99, x 100, x 101, x 102, x 103, x 104, x 105, x 106, x 107, x 108, x 109, x 110, x 111, x 112, x 113, x 114, x 115, x 116, x 117, x 118, x 119, x 120, x 121, x 122, x 123] := frame_lit t 124 hsz x hx
    clear hx hsz hz e69 e70 e0 e1 e2 e3 e4 e5 e6 e7 e8 e9 e10 e11 e12 e13 e14 e15 e16 e17 e18 e19 e20 e21 e22 e23 e24 e25 e26 e27 e28 e29 e30 e31 e32 e33 e34 e35 e36 e37 e38 e39 e40 e41 e42 e43 e44 e45 e46 e47 e48 e49 e50 e51 e52 e53 e54 e55 e56 e57 e58 e59 e71 e72 e73 e74 e75 e76 e77 e78 e79 e80 e81 e82 e83 e84 e85 e86 e87 e88 e89 e90 e91 e92 e93 e94 e95 e96 e97 e98 e99 e100 e101 e102 e103 e104 e105 e106 e107 e108 e109 e110 e111 e112 e113 e114 e115 e116 e117 e118 e119 e120 e121 e122 e123
    subst ht'
    dsimp only
    rw [h69, h70, h0, h1, h2, h3, h4, h5, h6, h7, h8, h9, h10, h11, h12, h13, h14, h15, h16, h17, h18, h19, h20, h21, h22, h23, h24, h25, h26, h27, h28, h29, h30, h31, h32, h33, h34, h35, h36, h37, h38, h39, h40, h41, h42, h43, h44, h45, h46, h47, h48, h49, h50, h51, h52, h53, h54, h55, h56, h57, h58, h59, h71, h72, h73, h74, h75, h76, h77, h78, h79, h80, h81, h82, h83, h84, h85, h86, h87, h88, h89, h90, h91, h92, h93, h94, h95, h96, h97, h98, h99, h100, h101, h102, h103, h104, h105, h106, h107, h108, h109, h110, h111, h112, h113, h114, h115, h116, h117, h118, h119, h120, h121, h122, h123]
    clear h69 h70 h0 h1 h2 h3 h4 h5 h6 h7 h8 h9 h10 h11 h12 h13 h14 h15 h16 h17 h18 h19 h20 h21 h22 h23 h24 h25 h26 h27 h28 h29 h30 h31 h32 h33 h34 h35 h36 h37 h38 h39 h40 h41 h42 h43 h44 h45 h46 h47 h48 h49 h50 h51 h52 h53 h54 h55 h56 h57 h58 h59 h71 h72 h73 h74 h75 h76 h77 h78 h79 h80 h81 h82 h83 h84 h85 h86 h87 h88 h89 h90 h91 h92 h93 h94 h95 h96 h97 h98 h99 h100 h101 h102 h103 h104 h105 h106 h107 h108 h109 h110 h111 h112 h113 h114 h115 h116 h117 h118 h119 h120 h121 h122 h123
    have hb5 := from_drew hS
    replace hB := hB.trans (hb5.mono hB.size)
    replace hD := hD.later hb5
    replace hG := hG.later hb5
    replace hrg := hrg.later hb5
    have qG := hG.at
    unfold frBox at qG
    have zG := hG.frozen
    clear hS hb5
    go_upto_region 27 with fail
    replace hG : Blk (w5.setCell ⟨gb, 2, none⟩ (.int .i64 v)) gb 29 (frBox ⟨g.K, g.R, v, g.P, g.E⟩ ga gc) := hG.set 2 _
    replace hD := hD.far (p := ⟨gb, 2, none⟩) (by show db ≠ gb; omega) (.int .i64 v)
    replace hrg := hrg.far2 gb 2 (.int .i64 v) hgne
    replace hB := hB.setCell (p := ⟨gb, 2, none⟩) (by show w.heap.size ≤ gb; omega) (.int .i64 v)
    generalize w5.setCell ⟨gb, 2, none⟩ (.int .i64 v) = wx at *
    clear qG zG
    obtain ⟨g2, ga2, gc2, hG, hrg⟩ : ∃ (g2 : Fr) (ga2 : Option Addr) (gc2 : Nat), Blk wx gb 29 (frBox g2 ga2 gc2) ∧ RowT wx ga2 g2.E := ⟨_, _, _, hG, hrg⟩
    refine region_slots [some 117, some 118, some 119, some 120, some 121, some 122, some 123, some 10] [none, none, none, none, none, none, none, none] 124 8 rfl (by kernel_rfl) (by kernel_rfl) rfl rfl ?_
    apply step_fix
    · intro a W Zs hS hFm hz hd
      have h11 := hFm.old 11 rfl
      conv at h11 => rhs; whnf
      replace h11 := ev_get hFm.size h11
      have hq := (hD.drew1.later hS).at
      unfold confBox at hq
      refine .inl ⟨wanted_none rfl _, fun K hK => ?_⟩
      have HK := Lib.hid hK
      clear hd hFm hK
      go_simp
      exact HK.out _ _ rfl (Below.refl _ _)
    simp only [List.nil_append, List.cons_append]
    apply step_fix
    · intro a W Zs hS hFm hz hd
      have h12 := hFm.old 12 rfl
      conv at h12 => rhs; whnf
      replace h12 := ev_get hFm.size h12
      have hq := (hG.drew1.later hS).at
      unfold frBox at hq
      refine .inl ⟨wanted_none rfl _, fun K hK => ?_⟩
      have HK := Lib.hid hK
      clear hd hFm hK
      go_simp
      exact HK.out _ _ rfl (Below.refl _ _)
    simp only [List.nil_append, List.cons_append]
    apply step_fix
    · intro a W Zs hS hFm hz hd
      have h117 := ev_get hFm.size (hd 0 117 rfl rfl)
      have h118 := ev_get hFm.size (hd 1 118 rfl rfl)
      refine .inl ⟨wanted_none rfl _, fun K hK => ?_⟩
      have HK := Lib.hid hK
      clear hd hFm hK
      go_simp
      refine (HK1.out _ hok g2 ga2 gc2 (hrg.drew1.later hS)).mono ?_
      rintro e W' ⟨rfl, hb⟩
      exact HK.out _ _ rfl hb
    simp only [List.nil_append, List.cons_append]
    apply step_fix
    · intro a W Zs hS hFm hz hd
      have h11 := hFm.old 11 rfl
      conv at h11 => rhs; whnf
      replace h11 := ev_get hFm.size h11
      have hq := (hD.drew1.later hS).at
      unfold confBox at hq
      refine .inl ⟨wanted_none rfl _, fun K hK => ?_⟩
      have HK := Lib.hid hK
      clear hd hFm hK
      go_simp
      exact HK.out _ _ rfl (Below.refl _ _)
    simp only [List.nil_append, List.cons_append]
    apply step_fix
    · intro a W Zs hS hFm hz hd
      have h12 := hFm.old 12 rfl
      conv at h12 => rhs; whnf
      replace h12 := ev_get hFm.size h12
      have hq := (hG.drew1.later hS).at
      unfold frBox at hq
      refine .inl ⟨wanted_none rfl _, fun K hK => ?_⟩
      have HK := Lib.hid hK
      clear hd hFm hK
      go_simp
      exact HK.out _ _ rfl (Below.refl _ _)
    simp only [List.nil_append, List.cons_append]
    apply step_fix
    · intro a W Zs hS hFm hz hd
      have h120 := ev_get hFm.size (hd 3 120 rfl rfl)
      have h121 := ev_get hFm.size (hd 4 121 rfl rfl)
      refine .inl ⟨wanted_none rfl _, fun K hK => ?_⟩
      have HK := Lib.hid hK
      clear hd hFm hK
      go_simp
      refine (HK2.out _ hok g2 ga2 gc2 (hrg.drew1.later hS)).mono ?_
      rintro e W' ⟨rfl, hb⟩
      exact HK.out _ _ rfl hb
    simp only [List.nil_append, List.cons_append]
    apply step_fix
    · intro a W Zs hS hFm hz hd
      have h119 := ev_get hFm.size (hd 2 119 rfl rfl)
      have h122 := ev_get hFm.size (hd 5 122 rfl rfl)
      refine .inl ⟨wanted_none rfl _, fun K hK => ?_⟩
      have HK := Lib.hid hK
      clear hd hFm hK
      go_simp
      exact HK.out _ _ rfl (Below.refl _ _)
    simp only [List.nil_append, List.cons_append]
    apply step_fix
    · intro a W Zs hS hFm hz hd
      have h123 := ev_get hFm.size (hd 6 123 rfl rfl)
      refine .inl ⟨wanted_none rfl _, fun K hK => ?_⟩
      have HK := Lib.hid hK
      clear hd hFm hK
      go_simp
      exact HK.out _ _ rfl (Below.refl _ _)
    simp only [List.nil_append, List.cons_append]
    intro a w9 Zs hS hFm hz hd
    have e10 := hd 7 10 (by decide) rfl
    have e0 := hFm.old 0 rfl
    conv at e0 => rhs; whnf
    have e1 := hFm.old 1 rfl
    conv at e1 => rhs; whnf
    have e2 := hFm.old 2 rfl
    conv at e2 => rhs; whnf
    have e3 := hFm.old 3 rfl
    conv at e3 => rhs; whnf
    have e4 := hFm.old 4 rfl
    conv at e4 => rhs; whnf
    have e5 := hFm.old 5 rfl
    conv at e5 => rhs; whnf
    have e6 := hFm.old 6 rfl
    conv at e6 => rhs; whnf
    have e7 := hFm.old 7 rfl
    conv at e7 => rhs; whnf
    have e8 := hFm.old 8 rfl
    conv at e8 => rhs; whnf
    have e9 := hFm.old 9 rfl
    conv at e9 => rhs; whnf
    have e11 := hFm.old 11 rfl
    conv at e11 => rhs; whnf
    have e12 := hFm.old 12 rfl
    conv at e12 => rhs; whnf
    have e13 := hFm.old 13 rfl
    conv at e13 => rhs; whnf
    have e14 := hFm.old 14 rfl
    conv at e14 => rhs; whnf
    have e15 := hFm.old 15 rfl
    conv at e15 => rhs; whnf
    have e16 := hFm.old 16 rfl
    conv at e16 => rhs; whnf
    have e17 := hFm.old 17 rfl
    conv at e17 => rhs; whnf
    have e18 := hFm.old 18 rfl
    conv at e18 => rhs; whnf
    have e19 := hFm.old 19 rfl
    conv at e19 => rhs; whnf
    have e20 := hFm.old 20 rfl
    conv at e20 => rhs; whnf
    have e21 := hFm.old 21 rfl
    conv at e21 => rhs; whnf
    have e22 := hFm.old 22 rfl
    conv at e22 => rhs; whnf
    have e23 := hFm.old 23 rfl
    conv at e23 => rhs; whnf
    have e24 := hFm.old 24 rfl
    conv at e24 => rhs; whnf
    have e25 := hFm.old 25 rfl
    conv at e25 => rhs; whnf
    have e26 := hFm.old 26 rfl
    conv at e26 => rhs; whnf
    have e27 := hFm.old 27 rfl
    conv at e27 => rhs; whnf
    have e28 := hFm.old 28 rfl
    conv at e28 => rhs; whnf
    have e29 := hFm.old 29 rfl
    conv at e29 => rhs; whnf
    have e30 := hFm.old 30 rfl
    conv at e30 => rhs; whnf
    have e31 := hFm.old 31 rfl
    conv at e31 => rhs; whnf
    have e32 := hFm.old 32 rfl
    conv at e32 => rhs; whnf
    have e33 := hFm.old 33 rfl
    conv at e33 => rhs; whnf
    have e34 := hFm.old 34 rfl
    conv at e34 => rhs; whnf
    have e35 := hFm.old 35 rfl
    conv at e35 => rhs; whnf
    have e36 := hFm.old 36 rfl
    conv at e36 => rhs; whnf
    have e37 := hFm.old 37 rfl
    conv at e37 => rhs; whnf
    have e38 := hFm.old 38 rfl
    conv at e38 => rhs; whnf
    have e39 := hFm.old 39 rfl
    conv at e39 => rhs; whnf
    have e40 := hFm.old 40 rfl
    conv at e40 => rhs; whnf
    have e41 := hFm.old 41 rfl
    conv at e41 => rhs; whnf
    have e42 := hFm.old 42 rfl
    conv at e42 => rhs; whnf
    have e43 := hFm.old 43 rfl
    conv at e43 => rhs; whnf
    have e44 := hFm.old 44 rfl
    conv at e44 => rhs; whnf
    have e45 := hFm.old 45 rfl
    conv at e45 => rhs; whnf
    have e46 := hFm.old 46 rfl
    conv at e46 => rhs; whnf
    have e47 := hFm.old 47 rfl
    conv at e47 => rhs; whnf
    have e48 := hFm.old 48 rfl
    conv at e48 => rhs; whnf
    have e49 := hFm.old 49 rfl
    conv at e49 => rhs; whnf
    have e50 := hFm.old 50 rfl
    conv at e50 => rhs; whnf
    have e51 := hFm.old 51 rfl
    conv at e51 => rhs; whnf
    have e52 := hFm.old 52 rfl
    conv at e52 => rhs; whnf
    have e53 := hFm.old 53 rfl
    conv at e53 => rhs; whnf
    have e54 := hFm.old 54 rfl
    conv at e54 => rhs; whnf
    have e55 := hFm.old 55 rfl
    conv at e55 => rhs; whnf
    have e56 := hFm.old 56 rfl
    conv at e56 => rhs; whnf
    have e57 := hFm.old 57 rfl
    conv at e57 => rhs; whnf
    have e58 := hFm.old 58 rfl
    conv at e58 => rhs; whnf
    have e59 := hFm.old 59 rfl
    conv at e59 => rhs; whnf
    have e60 := hFm.old 60 rfl
    conv at e60 => rhs; whnf
    have e61 := hFm.old 61 rfl
    conv at e61 => rhs; whnf
    have e62 := hFm.old 62 rfl
    conv at e62 => rhs; whnf
    have e63 := hFm.old 63 rfl
    conv at e63 => rhs; whnf
    have e64 := hFm.old 64 rfl
    conv at e64 => rhs; whnf
    have e65 := hFm.old 65 rfl
    conv at e65 => rhs; whnf
    have e66 := hFm.old 66 rfl
    conv at e66 => rhs; whnf
    have e67 := hFm.old 67 rfl
    conv at e67 => rhs; whnf
    have e68 := hFm.old 68 rfl
    conv at e68 => rhs; whnf
    have e69 := hFm.old 69 rfl
    conv at e69 => rhs; whnf
    have e70 := hFm.old 70 rfl
    conv at e70 => rhs; whnf
    have e71 := hFm.old 71 rfl
    conv at e71 => rhs; whnf
    have e72 := hFm.old 72 rfl
    conv at e72 => rhs; whnf
    have e73 := hFm.old 73 rfl
    conv at e73 => rhs; whnf
    have e74 := hFm.old 74 rfl
    conv at e74 => rhs; whnf
    have e75 := hFm.old 75 rfl
    conv at e75 => rhs; whnf
    have e76 := hFm.old 76 rfl
    conv at e76 => rhs; whnf
    have e77 := hFm.old 77 rfl
    conv at e77 => rhs; whnf
    have e78 := hFm.old 78 rfl
    conv at e78 => rhs; whnf
    have e79 := hFm.old 79 rfl
    conv at e79 => rhs; whnf
    have e80 := hFm.old 80 rfl
    conv at e80 => rhs; whnf
    have e81 := hFm.old 81 rfl
    conv at e81 => rhs; whnf
    have e82 := hFm.old 82 rfl
    conv at e82 => rhs; whnf
    have e83 := hFm.old 83 rfl
    conv at e83 => rhs; whnf
    have e84 := hFm.old 84 rfl
    conv at e84 => rhs; whnf
    have e85 := hFm.old 85 rfl
    conv at e85 => rhs; whnf
    have e86 := hFm.old 86 rfl
    conv at e86 => rhs; whnf
    have e87 := hFm.old 87 rfl
    conv at e87 => rhs; whnf
    have e88 := hFm.old 88 rfl
    conv at e88 => rhs; whnf
    have e89 := hFm.old 89 rfl
    conv at e89 => rhs; whnf
    have e90 := hFm.old 90 rfl
    conv at e90 => rhs; whnf
    have e91 := hFm.old 91 rfl
    conv at e91 => rhs; whnf
    have e92 := hFm.old 92 rfl
    conv at e92 => rhs; whnf
    have e93 := hFm.old 93 rfl
    conv at e93 => rhs; whnf
    have e94 := hFm.old 94 rfl
    conv at e94 => rhs; whnf
    have e95 := hFm.old 95 rfl
    conv at e95 => rhs; whnf
    have e96 := hFm.old 96 rfl
    conv at e96 => rhs; whnf
    have e97 := hFm.old 97 rfl
    conv at e97 => rhs; whnf
    have e98 := hFm.old 98 rfl
    conv at e98 => rhs; whnf
    have e99 := hFm.old 99 rfl
    conv at e99 => rhs; whnf
    have e100 := hFm.old 100 rfl
    conv at e100 => rhs; whnf
    have e101 := hFm.old 101 rfl
    conv at e101 => rhs; whnf
    have e102 := hFm.old 102 rfl
    conv at e102 => rhs; whnf
    have e103 := hFm.old 103 rfl
    conv at e103 => rhs; whnf
    have e104 := hFm.old 104 rfl
    conv at e104 => rhs; whnf
    have e105 := hFm.old 105 rfl
    conv at e105 => rhs; whnf
    have e106 := hFm.old 106 rfl
    conv at e106 => rhs; whnf
    have e107 := hFm.old 107 rfl
    conv at e107 => rhs; whnf
    have e108 := hFm.old 108 rfl
    conv at e108 => rhs; whnf
    have e109 := hFm.old 109 rfl
    conv at e109 => rhs; whnf
    have e110 := hFm.old 110 rfl
    conv at e110 => rhs; whnf
    have e111 := hFm.old 111 rfl
    conv at e111 => rhs; whnf
    have e112 := hFm.old 112 rfl
    conv at e112 => rhs; whnf
    have e113 := hFm.old 113 rfl
    conv at e113 => rhs; whnf
    have e114 := hFm.old 114 rfl
    conv at e114 => rhs; whnf
    have e115 := hFm.old 115 rfl
    conv at e115 => rhs; whnf
    have e116 := hFm.old 116 rfl
    conv at e116 => rhs; whnf
    have hsz := hFm.size
    have hdf := hFm.defers
    clear hd hFm
    obtain ⟨t, df⟩ := a
    simp only at hsz hdf
    subst hdf
    obtain ⟨x, hx⟩ : ∃ x : Nat → Value, ∀ i, t.getD i undef = x i := ⟨fun i => t.getD i undef, fun _ => rfl⟩
    have h10 := (hx 10).symm.trans e10
    have h0 := (hx 0).symm.trans e0
    have h1 := (hx 1).symm.trans e1
    have h2 := (hx 2).symm.trans e2
    have h3 := (hx 3).symm.trans e3
    have h4 := (hx 4).symm.trans e4
    have h5 := (hx 5).symm.trans e5
    have h6 := (hx 6).symm.trans e6
    have h7 := (hx 7).symm.trans e7
    have h8 := (hx 8).symm.trans e8
    have h9 := (hx 9).symm.trans e9
    have h11 := (hx 11).symm.trans e11
    have h12 := (hx 12).symm.trans e12
    have h13 := (hx 13).symm.trans e13
    have h14 := (hx 14).symm.trans e14
    have h15 := (hx 15).symm.trans e15
    have h16 := (hx 16).symm.trans e16
    have h17 := (hx 17).symm.trans e17
    have h18 := (hx 18).symm.trans e18
    have h19 := (hx 19).symm.trans e19
    have h20 := (hx 20).symm.trans e20
    have h21 := (hx 21).symm.trans e21
    have h22 := (hx 22).symm.trans e22
    have h23 := (hx 23).symm.trans e23
    have h24 := (hx 24).symm.trans e24
    have h25 := (hx 25).symm.trans e25
    have h26 := (hx 26).symm.trans e26
    have h27 := (hx 27).symm.trans e27
    have h28 := (hx 28).symm.trans e28
    have h29 := (hx 29).symm.trans e29
    have h30 := (hx 30).symm.trans e30
    have h31 := (hx 31).symm.trans e31
    have h32 := (hx 32).symm.trans e32
    have h33 := (hx 33).symm.trans e33
    have h34 := (hx 34).symm.trans e34
    have h35 := (hx 35).symm.trans e35
    have h36 := (hx 36).symm.trans e36
    have h37 := (hx 37).symm.trans e37
    have h38 := (hx 38).symm.trans e38
    have h39 := (hx 39).symm.trans e39
    have h40 := (hx 40).symm.trans e40
    have h41 := (hx 41).symm.trans e41
    have h42 := (hx 42).symm.trans e42
    have h43 := (hx 43).symm.trans e43
    have h44 := (hx 44).symm.trans e44
    have h45 := (hx 45).symm.trans e45
    have h46 := (hx 46).symm.trans e46
    have h47 := (hx 47).symm.trans e47
    have h48 := (hx 48).symm.trans e48
    have h49 := (hx 49).symm.trans e49
    have h50 := (hx 50).symm.trans e50
    have h51 := (hx 51).symm.trans e51
    have h52 := (hx 52).symm.trans e52
    have h53 := (hx 53).symm.trans e53
    have h54 := (hx 54).symm.trans e54
    have h55 := (hx 55).symm.trans e55
    have h56 := (hx 56).symm.trans e56
    have h57 := (hx 57).symm.trans e57
    have h58 := (hx 58).symm.trans e58
    have h59 := (hx 59).symm.trans e59
    have h60 := (hx 60).symm.trans e60
    have h61 := (hx 61).symm.trans e61
    have h62 := (hx 62).symm.trans e62
    have h63 := (hx 63).symm.trans e63
    have h64 := (hx 64).symm.trans e64
    have h65 := (hx 65).symm.trans e65
    have h66 := (hx 66).symm.trans e66
    have h67 := (hx 67).symm.trans e67
    have h68 := (hx 68).symm.trans e68
    have h69 := (hx 69).symm.trans e69
    have h70 := (hx 70).symm.trans e70
    have h71 := (hx 71).symm.trans e71
    have h72 := (hx 72).symm.trans e72
    have h73 := (hx 73).symm.trans e73
    have h74 := (hx 74).symm.trans e74
    have h75 := (hx 75).symm.trans e75
    have h76 := (hx 76).symm.trans e76
    have h77 := (hx 77).symm.trans e77
    have h78 := (hx 78).symm.trans e78
    have h79 := (hx 79).symm.trans e79
    have h80 := (hx 80).symm.trans e80
    have h81 := (hx 81).symm.trans e81
    have h82 := (hx 82).symm.trans e82
    have h83 := (hx 83).symm.trans e83
    have h84 := (hx 84).symm.trans e84
    have h85 := (hx 85).symm.trans e85
    have h86 := (hx 86).symm.trans e86
    have h87 := (hx 87).symm.trans e87
    have h88 := (hx 88).symm.trans e88
    have h89 := (hx 89).symm.trans e89
    have h90 := (hx 90).symm.trans e90
    have h91 := (hx 91).symm.trans e91
    have h92 := (hx 92).symm.trans e92
    have h93 := (hx 93).symm.trans e93
    have h94 := (hx 94).symm.trans e94
    have h95 := (hx 95).symm.trans e95
    have h96 := (hx 96).symm.trans e96
    have h97 := (hx 97).symm.trans e97
    have h98 := (hx 98).symm.trans e98
    have h99 := (hx 99).symm.trans e99
    have h100 := (hx 100).symm.trans e100
    have h101 := (hx 101).symm.trans e101
    have h102 := (hx 102).symm.trans e102
    have h103 := (hx 103).symm.trans e103
    have h104 := (hx 104).symm.trans e104
    have h105 := (hx 105).symm.trans e105
    have h106 := (hx 106).symm.trans e106
    have h107 := (hx 107).symm.trans e107
    have h108 := (hx 108).symm.trans e108
    have h109 := (hx 109).symm.trans e109
    have h110 := (hx 110).symm.trans e110
    have h111 := (hx 111).symm.trans e111
    have h112 := (hx 112).symm.trans e112
    have h113 := (hx 113).symm.trans e113
    have h114 := (hx 114).symm.trans e114
    have h115 := (hx 115).symm.trans e115
    have h116 := (hx 116).symm.trans e116
    have ht' : t = #[x 0, x 1, x 2, x 3, x 4, x 5, x 6, x 7, x 8, x 9, x 10, x 11, x 12, x 13, x 14, x 15, x 16, x 17, x 18, x 19, x 20, x 21, x 22, x 23, x 24, x 25, x 26, x 27, x 28, x 29, x 30, x 31, x 32, x 33, x 34, x 35, x 36, x 37, x 38, x 39, x 40, x 41, x 42, x 43, x 44, x 45, x 46, x 47, x 48, x 49, x 50, x 51, x 52, x 53, x 54, x 55, x 56, x 57, x 58, x 59, x 60, x 61, x 62, x 63, x 64, x 65, x 66, x 67, x 68, x 69, x 70, x 71, x 72, x 73, x 74, x 75, x 76, x 77, x 78, x 79, x 80, x 81, x 82, x 83, x 84, x 85, x 86, x 87, x 88, x 89, x 90, x 91, x 92, x 93, x 94, x 95, x 96, x 97, x 98, x 99, x 100, x 101, x 102, x 103, x 104, x 105, x 106, x 107, x 108, x 109, x 110, x 111, x 112, x 113, x 114, x 115, x 116, x 117, x 118, x 119, x 120, x 121, x 122, x 123] := frame_lit t 124 hsz x hx
    clear hx hsz hz e10 e0 e1 e2 e3 e4 e5 e6 e7 e8 e9 e11 e12 e13 e14 e15 e16 e17 e18 e19 e20 e21 e22 e23 e24 e25 e26 e27 e28 e29 e30 e31 e32 e33 e34 e35 e36 e37 e38 e39 e40 e41 e42 e43 e44 e45 e46 e47 e48 e49 e50 e51 e52 e53 e54 e55 e56 e57 e58 e59 e60 e61 e62 e63 e64 e65 e66 e67 e68 e69 e70 e71 e72 e73 e74 e75 e76 e77 e78 e79 e80 e81 e82 e83 e84 e85 e86 e87 e88 e89 e90 e91 e92 e93 e94 e95 e96 e97 e98 e99 e100 e101 e102 e103 e104 e105 e106 e107 e108 e109 e110 e111 e112 e113 e114 e115 e116
    subst ht'
    dsimp only
    rw [h10, h0, h1, h2, h3, h4, h5, h6, h7, h8, h9, h11, h12, h13, h14, h15, h16, h17, h18, h19, h20, h21, h22, h23, h24, h25, h26, h27, h28, h29, h30, h31, h32, h33, h34, h35, h36, h37, h38, h39, h40, h41, h42, h43, h44, h45, h46, h47, h48, h49, h50, h51, h52, h53, h54, h55, h56, h57, h58, h59, h60, h61, h62, h63, h64, h65, h66, h67, h68, h69, h70, h71, h72, h73, h74, h75, h76, h77, h78, h79, h80, h81, h82, h83, h84, h85, h86, h87, h88, h89, h90, h91, h92, h93, h94, h95, h96, h97, h98, h99, h100, h101, h102, h103, h104, h105, h106, h107, h108, h109, h110, h111, h112, h113, h114, h115, h116]
    clear h10 h0 h1 h2 h3 h4 h5 h6 h7 h8 h9 h11 h12 h13 h14 h15 h16 h17 h18 h19 h20 h21 h22 h23 h24 h25 h26 h27 h28 h29 h30 h31 h32 h33 h34 h35 h36 h37 h38 h39 h40 h41 h42 h43 h44 h45 h46 h47 h48 h49 h50 h51 h52 h53 h54 h55 h56 h57 h58 h59 h60 h61 h62 h63 h64 h65 h66 h67 h68 h69 h70 h71 h72 h73 h74 h75 h76 h77 h78 h79 h80 h81 h82 h83 h84 h85 h86 h87 h88 h89 h90 h91 h92 h93 h94 h95 h96 h97 h98 h99 h100 h101 h102 h103 h104 h105 h106 h107 h108 h109 h110 h111 h112 h113 h114 h115 h116
    have hb9 := from_drew hS
    replace hB := hB.trans (hb9.mono hB.size)
    go_wp2
    go_ret
    exact ⟨rfl, hB⟩
  · rw [hi] at HW
    clear hi
    go_wp2_with fail
    refine (HW.out _).mono ?_
    rintro e wl ⟨rfl, rfl⟩
    have qG := hG.at
    unfold frBox at qG
    have zG := hG.frozen
    have HN := Lib.hid (fun W => within5_any n 5 W (by omega) (by omega))
    have m0 : 0 ≤ n % 5 := by omega
    have m1 : n % 5 < 5 := by omega
    generalize n % 5 = v at *
    have z1 : IntKind.i64.wrap (v - 1) = v - 1 := wrap_in _ (by omega) (by omega)
    go_wp2_with fail
    refine (HN.out _).mono ?_
    rintro e wl ⟨rfl, rfl⟩
    go_upto_region 27 with fail
    replace hG : Blk (w4.setCell ⟨gb, 3, none⟩ (.int .i64 (v - 1))) gb 29 (frBox ⟨g.K, g.R, g.S, ⟨v - 1, g.P.V⟩, g.E⟩ ga gc) := hG.set 3 _
    replace hD := hD.far (p := ⟨gb, 3, none⟩) (by show db ≠ gb; omega) (.int .i64 (v - 1))
    replace hrg := hrg.far2 gb 3 (.int .i64 (v - 1)) hgne
    replace hB := hB.setCell (p := ⟨gb, 3, none⟩) (by show w.heap.size ≤ gb; omega) (.int .i64 (v - 1))
    generalize w4.setCell ⟨gb, 3, none⟩ (.int .i64 (v - 1)) = wx at *
    clear qG zG
    obtain ⟨g2, ga2, gc2, hG, hrg⟩ : ∃ (g2 : Fr) (ga2 : Option Addr) (gc2 : Nat), Blk wx gb 29 (frBox g2 ga2 gc2) ∧ RowT wx ga2 g2.E := ⟨_, _, _, hG, hrg⟩
    refine region_slots [some 117, some 118, some 119, some 120, some 121, some 122, some 123, some 10] [none, none, none, none, none, none, none, none] 124 8 rfl (by kernel_rfl) (by kernel_rfl) rfl rfl ?_
    apply step_fix
    · intro a W Zs hS hFm hz hd
      have h11 := hFm.old 11 rfl
      conv at h11 => rhs; whnf
      replace h11 := ev_get hFm.size h11
      have hq := (hD.drew1.later hS).at
      unfold confBox at hq
      refine .inl ⟨wanted_none rfl _, fun K hK => ?_⟩
      have HK := Lib.hid hK
      clear hd hFm hK
      go_simp
      exact HK.out _ _ rfl (Below.refl _ _)
    simp only [List.nil_append, List.cons_append]
    apply step_fix
    · intro a W Zs hS hFm hz hd
      have h12 := hFm.old 12 rfl
      conv at h12 => rhs; whnf
      replace h12 := ev_get hFm.size h12
      have hq := (hG.drew1.later hS).at
      unfold frBox at hq
      refine .inl ⟨wanted_none rfl _, fun K hK => ?_⟩
      have HK := Lib.hid hK
      clear hd hFm hK
      go_simp
      exact HK.out _ _ rfl (Below.refl _ _)
    simp only [List.nil_append, List.cons_append]
    apply step_fix
    · intro a W Zs hS hFm hz hd
      have h117 := ev_get hFm.size (hd 0 117 rfl rfl)
      have h118 := ev_get hFm.size (hd 1 118 rfl rfl)
      refine .inl ⟨wanted_none rfl _, fun K hK => ?_⟩
      have HK := Lib.hid hK
      clear hd hFm hK
      go_simp
      refine (HK1.out _ hok g2 ga2 gc2 (hrg.drew1.later hS)).mono ?_
      rintro e W' ⟨rfl, hb⟩
      exact HK.out _ _ rfl hb
    simp only [List.nil_append, List.cons_append]
    apply step_fix
    · intro a W Zs hS hFm hz hd
      have h11 := hFm.old 11 rfl
      conv at h11 => rhs; whnf
      replace h11 := ev_get hFm.size h11
      have hq := (hD.drew1.later hS).at
      unfold confBox at hq
      refine .inl ⟨wanted_none rfl _, fun K hK => ?_⟩
      have HK := Lib.hid hK
      clear hd hFm hK
      go_simp
      exact HK.out _ _ rfl (Below.refl _ _)
    simp only [List.nil_append, List.cons_append]
    apply step_fix
    · intro a W Zs hS hFm hz hd
      have h12 := hFm.old 12 rfl
      conv at h12 => rhs; whnf
      replace h12 := ev_get hFm.size h12
      have hq := (hG.drew1.later hS).at
      unfold frBox at hq
      refine .inl ⟨wanted_none rfl _, fun K hK => ?_⟩
      have HK := Lib.hid hK
      clear hd hFm hK
      go_simp
      exact HK.out _ _ rfl (Below.refl _ _)
    simp only [List.nil_append, List.cons_append]
    apply step_fix
    · intro a W Zs hS hFm hz hd
      have h120 := ev_get hFm.size (hd 3 120 rfl rfl)
      have h121 := ev_get hFm.size (hd 4 121 rfl rfl)
      refine .inl ⟨wanted_none rfl _, fun K hK => ?_⟩
      have HK := Lib.hid hK
      clear hd hFm hK
      go_simp
      refine (HK2.out _ hok g2 ga2 gc2 (hrg.drew1.later hS)).mono ?_
      rintro e W' ⟨rfl, hb⟩
      exact HK.out _ _ rfl hb
    simp only [List.nil_append, List.cons_append]
    apply step_fix
    · intro a W Zs hS hFm hz hd
      have h119 := ev_get hFm.size (hd 2 119 rfl rfl)
      have h122 := ev_get hFm.size (hd 5 122 rfl rfl)
      refine .inl ⟨wanted_none rfl _, fun K hK => ?_⟩
      have HK := Lib.hid hK
      clear hd hFm hK
      go_simp
      exact HK.out _ _ rfl (Below.refl _ _)
    simp only [List.nil_append, List.cons_append]
    apply step_fix
    · intro a W Zs hS hFm hz hd
      have h123 := ev_get hFm.size (hd 6 123 rfl rfl)
      refine .inl ⟨wanted_none rfl _, fun K hK => ?_⟩
      have HK := Lib.hid hK
      clear hd hFm hK
      go_simp
      exact HK.out _ _ rfl (Below.refl _ _)
    simp only [List.nil_append, List.cons_append]
    intro a w9 Zs hS hFm hz hd
    have e10 := hd 7 10 (by decide) rfl
    have e0 := hFm.old 0 rfl
    conv at e0 => rhs; whnf
    have e1 := hFm.old 1 rfl
    conv at e1 => rhs; whnf
    have e2 := hFm.old 2 rfl
    conv at e2 => rhs; whnf
    have e3 := hFm.old 3 rfl
    conv at e3 => rhs; whnf
    have e4 := hFm.old 4 rfl
    conv at e4 => rhs; whnf
    have e5 := hFm.old 5 rfl
    conv at e5 => rhs; whnf
    have e6 := hFm.old 6 rfl
    conv at e6 => rhs; whnf
    have e7 := hFm.old 7 rfl
    conv at e7 => rhs; whnf
    have e8 := hFm.old 8 rfl
    conv at e8 => rhs; whnf
    have e9 := hFm.old 9 rfl
    conv at e9 => rhs; whnf
    have e11 := hFm.old 11 rfl
    conv at e11 => rhs; whnf
    have e12 := hFm.old 12 rfl
    conv at e12 => rhs; whnf
    have e13 := hFm.old 13 rfl
    conv at e13 => rhs; whnf
    have e14 := hFm.old 14 rfl
    conv at e14 => rhs; whnf
    have e15 := hFm.old 15 rfl
    conv at e15 => rhs; whnf
    have e16 := hFm.old 16 rfl
    conv at e16 => rhs; whnf
    have e17 := hFm.old 17 rfl
    conv at e17 => rhs; whnf
    have e18 := hFm.old 18 rfl
    conv at e18 => rhs; whnf
    have e19 := hFm.old 19 rfl
    conv at e19 => rhs; whnf
    have e20 := hFm.old 20 rfl
    conv at e20 => rhs; whnf
    have e21 := hFm.old 21 rfl
    conv at e21 => rhs; whnf
    have e22 := hFm.old 22 rfl
    conv at e22 => rhs; whnf
    have e23 := hFm.old 23 rfl
    conv at e23 => rhs; whnf
    have e24 := hFm.old 24 rfl
    conv at e24 => rhs; whnf
    have e25 := hFm.old 25 rfl
    conv at e25 => rhs; whnf
    have e26 := hFm.old 26 rfl
    conv at e26 => rhs; whnf
    have e27 := hFm.old 27 rfl
    conv at e27 => rhs; whnf
    have e28 := hFm.old 28 rfl
    conv at e28 => rhs; whnf
    have e29 := hFm.old 29 rfl
    conv at e29 => rhs; whnf
    have e30 := hFm.old 30 rfl
    conv at e30 => rhs; whnf
    have e31 := hFm.old 31 rfl
    conv at e31 => rhs; whnf
    have e32 := hFm.old 32 rfl
    conv at e32 => rhs; whnf
    have e33 := hFm.old 33 rfl
    conv at e33 => rhs; whnf
    have e34 := hFm.old 34 rfl
    conv at e34 => rhs; whnf
    have e35 := hFm.old 35 rfl
    conv at e35 => rhs; whnf
    have e36 := hFm.old 36 rfl
    conv at e36 => rhs; whnf
    have e37 := hFm.old 37 rfl
    conv at e37 => rhs; whnf
    have e38 := hFm.old 38 rfl
    conv at e38 => rhs; whnf
    have e39 := hFm.old 39 rfl
    conv at e39 => rhs; whnf
    have e40 := hFm.old 40 rfl
    conv at e40 => rhs; whnf
    have e41 := hFm.old 41 rfl
    conv at e41 => rhs; whnf
    have e42 := hFm.old 42 rfl
    conv at e42 => rhs; whnf
    have e43 := hFm.old 43 rfl
    conv at e43 => rhs; whnf
    have e44 := hFm.old 44 rfl
    conv at e44 => rhs; whnf
    have e45 := hFm.old 45 rfl
    conv at e45 => rhs; whnf
    have e46 := hFm.old 46 rfl
    conv at e46 => rhs; whnf
    have e47 := hFm.old 47 rfl
    conv at e47 => rhs; whnf
    have e48 := hFm.old 48 rfl
    conv at e48 => rhs; whnf
    have e49 := hFm.old 49 rfl
    conv at e49 => rhs; whnf
    have e50 := hFm.old 50 rfl
    conv at e50 => rhs; whnf
    have e51 := hFm.old 51 rfl
    conv at e51 => rhs; whnf
    have e52 := hFm.old 52 rfl
    conv at e52 => rhs; whnf
    have e53 := hFm.old 53 rfl
    conv at e53 => rhs; whnf
    have e54 := hFm.old 54 rfl
    conv at e54 => rhs; whnf
    have e55 := hFm.old 55 rfl
    conv at e55 => rhs; whnf
    have e56 := hFm.old 56 rfl
    conv at e56 => rhs; whnf
    have e57 := hFm.old 57 rfl
    conv at e57 => rhs; whnf
    have e58 := hFm.old 58 rfl
    conv at e58 => rhs; whnf
    have e59 := hFm.old 59 rfl
    conv at e59 => rhs; whnf
    have e60 := hFm.old 60 rfl
    conv at e60 => rhs; whnf
    have e61 := hFm.old 61 rfl
    conv at e61 => rhs; whnf
    have e62 := hFm.old 62 rfl
    conv at e62 => rhs; whnf
    have e63 := hFm.old 63 rfl
    conv at e63 => rhs; whnf
    have e64 := hFm.old 64 rfl
    conv at e64 => rhs; whnf
    have e65 := hFm.old 65 rfl
    conv at e65 => rhs; whnf
    have e66 := hFm.old 66 rfl
    conv at e66 => rhs; whnf
    have e67 := hFm.old 67 rfl
    conv at e67 => rhs; whnf
    have e68 := hFm.old 68 rfl
    conv at e68 => rhs; whnf
    have e69 := hFm.old 69 rfl
    conv at e69 => rhs; whnf
    have e70 := hFm.old 70 rfl
    conv at e70 => rhs; whnf
    have e71 := hFm.old 71 rfl
    conv at e71 => rhs; whnf
    have e72 := hFm.old 72 rfl
    conv at e72 => rhs; whnf
    have e73 := hFm.old 73 rfl
    conv at e73 => rhs; whnf
    have e74 := hFm.old 74 rfl
    conv at e74 => rhs; whnf
    have e75 := hFm.old 75 rfl
    conv at e75 => rhs; whnf
    have e76 := hFm.old 76 rfl
    conv at e76 => rhs; whnf
    have e77 := hFm.old 77 rfl
    conv at e77 => rhs; whnf
    have e78 := hFm.old 78 rfl
    conv at e78 => rhs; whnf
    have e79 := hFm.old 79 rfl
    conv at e79 => rhs; whnf
    have e80 := hFm.old 80 rfl
    conv at e80 => rhs; whnf
    have e81 := hFm.old 81 rfl
    conv at e81 => rhs; whnf
    have e82 := hFm.old 82 rfl
    conv at e82 => rhs; whnf
    have e83 := hFm.old 83 rfl
    conv at e83 => rhs; whnf
    have e84 := hFm.old 84 rfl
    conv at e84 => rhs; whnf
    have e85 := hFm.old 85 rfl
    conv at e85 => rhs; whnf
    have e86 := hFm.old 86 rfl
    conv at e86 => rhs; whnf
    have e87 := hFm.old 87 rfl
    conv at e87 => rhs; whnf
    have e88 := hFm.old 88 rfl
    conv at e88 => rhs; whnf
    have e89 := hFm.old 89 rfl
    conv at e89 => rhs; whnf
    have e90 := hFm.old 90 rfl
    conv at e90 => rhs; whnf
    have e91 := hFm.old 91 rfl
    conv at e91 => rhs; whnf
    have e92 := hFm.old 92 rfl
    conv at e92 => rhs; whnf
    have e93 := hFm.old 93 rfl
    conv at e93 => rhs; whnf
    have e94 := hFm.old 94 rfl
    conv at e94 => rhs; whnf
    have e95 := hFm.old 95 rfl
    conv at e95 => rhs; whnf
    have e96 := hFm.old 96 rfl
    conv at e96 => rhs; whnf
    have e97 := hFm.old 97 rfl
    conv at e97 => rhs; whnf
    have e98 := hFm.old 98 rfl
    conv at e98 => rhs; whnf
    have e99 := hFm.old 99 rfl
    conv at e99 => rhs; whnf
    have e100 := hFm.old 100 rfl
    conv at e100 => rhs; whnf
    have e101 := hFm.old 101 rfl
    conv at e101 => rhs; whnf
    have e102 := hFm.old 102 rfl
    conv at e102 => rhs; whnf
    have e103 := hFm.old 103 rfl
    conv at e103 => rhs; whnf
    have e104 := hFm.old 104 rfl
    conv at e104 => rhs; whnf
    have e105 := hFm.old 105 rfl
    conv at e105 => rhs; whnf
    have e106 := hFm.old 106 rfl
    conv at e106 => rhs; whnf
    have e107 := hFm.old 107 rfl
    conv at e107 => rhs; whnf
    have e108 := hFm.old 108 rfl
    conv at e108 => rhs; whnf
    have e109 := hFm.old 109 rfl
    conv at e109 => rhs; whnf
    have e110 := hFm.old 110 rfl
    conv at e110 => rhs; whnf
    have e111 := hFm.old 111 rfl
    conv at e111 => rhs; whnf
    have e112 := hFm.old 112 rfl
    conv at e112 => rhs; whnf
    have e113 := hFm.old 113 rfl
    conv at e113 => rhs; whnf
    have e114 := hFm.old 114 rfl
    conv at e114 => rhs; whnf
    have e115 := hFm.old 115 rfl
    conv at e115 => rhs; whnf
    have e116 := hFm.old 116 rfl
    conv at e116 => rhs; whnf
    have hsz := hFm.size
    have hdf := hFm.defers
    clear hd hFm
    obtain ⟨t, df⟩ := a
    simp only at hsz hdf
    subst hdf
    obtain ⟨x, hx⟩ : ∃ x : Nat → Value, ∀ i, t.getD i undef = x i := ⟨fun i => t.getD i undef, fun _ => rfl⟩
    have h10 := (hx 10).symm.trans e10
    have h0 := (hx 0).symm.trans e0
    have h1 := (hx 1).symm.trans e1
    have h2 := (hx 2).symm.trans e2
    have h3 := (hx 3).symm.trans e3
    have h4 := (hx 4).symm.trans e4
    have h5 := (hx 5).symm.trans e5
    have h6 := (hx 6).symm.trans e6
    have h7 := (hx 7).symm.trans e7
    have h8 := (hx 8).symm.trans e8
    have h9 := (hx 9).symm.trans e9
    have h11 := (hx 11).symm.trans e11
    have h12 := (hx 12).symm.trans e12
    have h13 := (hx 13).symm.trans e13
    have h14 := (hx 14).symm.trans e14
    have h15 := (hx 15).symm.trans e15
    have h16 := (hx 16).symm.trans e16
    have h17 := (hx 17).symm.trans e17
    have h18 := (hx 18).symm.trans e18
    have h19 := (hx 19).symm.trans e19
    have h20 := (hx 20).symm.trans e20
    have h21 := (hx 21).symm.trans e21
    have h22 := (hx 22).symm.trans e22
    have h23 := (hx 23).symm.trans e23
    have h24 := (hx 24).symm.trans e24
    have h25 := (hx 25).symm.trans e25
    have h26 := (hx 26).symm.trans e26
    have h27 := (hx 27).symm.trans e27
    have h28 := (hx 28).symm.trans e28
    have h29 := (hx 29).symm.trans e29
    have h30 := (hx 30).symm.trans e30
    have h31 := (hx 31).symm.trans e31
    have h32 := (hx 32).symm.trans e32
    have h33 := (hx 33).symm.trans e33
    have h34 := (hx 34).symm.trans e34
    have h35 := (hx 35).symm.trans e35
    have h36 := (hx 36).symm.trans e36
    have h37 := (hx 37).symm.trans e37
    have h38 := (hx 38).symm.trans e38
    have h39 := (hx 39).symm.trans e39
    have h40 := (hx 40).symm.trans e40
    have h41 := (hx 41).symm.trans e41
    have h42 := (hx 42).symm.trans e42
    have h43 := (hx 43).symm.trans e43
    have h44 := (hx 44).symm.trans e44
    have h45 := (hx 45).symm.trans e45
    have h46 := (hx 46).symm.trans e46
    have h47 := (hx 47).symm.trans e47
    have h48 := (hx 48).symm.trans e48
    have h49 := (hx 49).symm.trans e49
    have h50 := (hx 50).symm.trans e50
    have h51 := (hx 51).symm.trans e51
    have h52 := (hx 52).symm.trans e52
    have h53 := (hx 53).symm.trans e53
    have h54 := (hx 54).symm.trans e54
    have h55 := (hx 55).symm.trans e55
    have h56 := (hx 56).symm.trans e56
    have h57 := (hx 57).symm.trans e57
    have h58 := (hx 58).symm.trans e58
    have h59 := (hx 59).symm.trans e59
    have h60 := (hx 60).symm.trans e60
    have h61 := (hx 61).symm.trans e61
    have h62 := (hx 62).symm.trans e62
    have h63 := (hx 63).symm.trans e63
    have h64 := (hx 64).symm.trans e64
    have h65 := (hx 65).symm.trans e65
    have h66 := (hx 66).symm.trans e66
    have h67 := (hx 67).symm.trans e67
    have h68 := (hx 68).symm.trans e68
    have h69 := (hx 69).symm.trans e69
    have h70 := (hx 70).symm.trans e70
    have h71 := (hx 71).symm.trans e71
    have h72 := (hx 72).symm.trans e72
    have h73 := (hx 73).symm.trans e73
    have h74 := (hx 74).symm.trans e74
    have h75 := (hx 75).symm.trans e75
    have h76 := (hx 76).symm.trans e76
    have h77 := (hx 77).symm.trans e77
    have h78 := (hx 78).symm.trans e78
    have h79 := (hx 79).symm.trans e79
    have h80 := (hx 80).symm.trans e80
    have h81 := (hx 81).symm.trans e81
    have h82 := (hx 82).symm.trans e82
    have h83 := (hx 83).symm.trans e83
    have h84 := (hx 84).symm.trans e84
    have h85 := (hx 85).symm.trans e85
    have h86 := (hx 86).symm.trans e86
    have h87 := (hx 87).symm.trans e87
    have h88 := (hx 88).symm.trans e88
    have h89 := (hx 89).symm.trans e89
    have h90 := (hx 90).symm.trans e90
    have h91 := (hx 91).symm.trans e91
    have h92 := (hx 92).symm.trans e92
    have h93 := (hx 93).symm.trans e93
    have h94 := (hx 94).symm.trans e94
    have h95 := (hx 95).symm.trans e95
    have h96 := (hx 96).symm.trans e96
    have h97 := (hx 97).symm.trans e97
    have h98 := (hx 98).symm.trans e98
    have h99 := (hx 99).symm.trans e99
    have h100 := (hx 100).symm.trans e100
    have h101 := (hx 101).symm.trans e101
    have h102 := (hx 102).symm.trans e102
    have h103 := (hx 103).symm.trans e103
    have h104 := (hx 104).symm.trans e104
    have h105 := (hx 105).symm.trans e105
    have h106 := (hx 106).symm.trans e106
    have h107 := (hx 107).symm.trans e107
    have h108 := (hx 108).symm.trans e108
    have h109 := (hx 109).symm.trans e109
    have h110 := (hx 110).symm.trans e110
    have h111 := (hx 111).symm.trans e111
    have h112 := (hx 112).symm.trans e112
    have h113 := (hx 113).symm.trans e113
    have h114 := (hx 114).symm.trans e114
    have h115 := (hx 115).symm.trans e115
    have h116 := (hx 116).symm.trans e116
    have ht' : t = #[x 0, x 1, x 2, x 3, x 4, x 5, x 6, x 7, x 8, x 9, x 10, x 11, x 12, x 13, x 14, x 15, x 16, x 17, x 18, x 19, x 20, x 21, x 22, x 23, x 24, x 25, x 26, x 27, x 28, x 29, x 30, x 31, x 32, x 33, x 34, x 35, x 36, x 37, x 38, x 39, x 40, x 41, x 42, x 43, x 44, x 45, x 46, x 47, x 48, x 49, x 50, x 51, x 52, x 53, x 54, x 55, x 56, x 57, x 58, x 59, x 60, x 61, x 62, x 63, x 64, x 65, x 66, x 67, x 68, x 69, x 70, x 71, x 72, x 73, x 74, x 75, x 76, x 77, x 78, x 79, x 80, x 81, x 82, x 83, x 84, x 85, x 86, x 87, x 88, x 89, x 90, x 91, x 92, x 93, x 94, x 95, x 96, x 97, x 98, x 99, x 100, x 101, x 102, x 103, x 104, x 105, x 106, x 107, x 108, x 109, x 110, x 111, x 112, x 113, x 114, x 115, x 116, x 117, x 118, x 119, x 120, x 121, x 122, x 123] := frame_lit t 124 hsz x hx
    clear hx hsz hz e10 e0 e1 e2 e3 e4 e5 e6 e7 e8 e9 e11 e12 e13 e14 e15 e16 e17 e18 e19 e20 e21 e22 e23 e24 e25 e26 e27 e28 e29 e30 e31 e32 e33 e34 e35 e36 e37 e38 e39 e40 e41 e42 e43 e44 e45 e46 e47 e48 e49 e50 e51 e52 e53 e54 e55 e56 e57 e58 e59 e60 e61 e62 e63 e64 e65 e66 e67 e68 e69 e70 e71 e72 e73 e74 e75 e76 e77 e78 e79 e80 e81 e82 e83 e84 e85 e86 e87 e88 e89 e90 e91 e92 e93 e94 e95 e96 e97 e98 e99 e100 e101 e102 e103 e104 e105 e106 e107 e108 e109 e110 e111 e112 e113 e114 e115 e116
    subst ht'
    dsimp only
    rw [h10, h0, h1, h2, h3, h4, h5, h6, h7, h8, h9, h11, h12, h13, h14, h15, h16, h17, h18, h19, h20, h21, h22, h23, h24, h25, h26, h27, h28, h29, h30, h31, h32, h33, h34, h35, h36, h37, h38, h39, h40, h41, h42, h43, h44, h45, h46, h47, h48, h49, h50, h51, h52, h53, h54, h55, h56, h57, h58, h59, h60, h61, h62, h63, h64, h65, h66, h67, h68, h69, h70, h71, h72, h73, h74, h75, h76, h77, h78, h79, h80, h81, h82, h83, h84, h85, h86, h87, h88, h89, h90, h91, h92, h93, h94, h95, h96, h97, h98, h99, h100, h101, h102, h103, h104, h105, h106, h107, h108, h109, h110, h111, h112, h113, h114, h115, h116]
    clear h10 h0 h1 h2 h3 h4 h5 h6 h7 h8 h9 h11 h12 h13 h14 h15 h16 h17 h18 h19 h20 h21 h22 h23 h24 h25 h26 h27 h28 h29 h30 h31 h32 h33 h34 h35 h36 h37 h38 h39 h40 h41 h42 h43 h44 h45 h46 h47 h48 h49 h50 h51 h52 h53 h54 h55 h56 h57 h58 h59 h60 h61 h62 h63 h64 h65 h66 h67 h68 h69 h70 h71 h72 h73 h74 h75 h76 h77 h78 h79 h80 h81 h82 h83 h84 h85 h86 h87 h88 h89 h90 h91 h92 h93 h94 h95 h96 h97 h98 h99 h100 h101 h102 h103 h104 h105 h106 h107 h108 h109 h110 h111 h112 h113 h114 h115 h116
    have hb9 := from_drew hS
    replace hB := hB.trans (hb9.mono hB.size)
    go_wp2
    go_ret
    exact ⟨rfl, hB⟩
  · rw [hi] at HW
    clear hi
    go_wp2_with fail
    refine (HW.out _).mono ?_
    rintro e wl ⟨rfl, rfl⟩
    have qG := hG.at
    unfold frBox at qG
    have zG := hG.frozen
    have HN := Lib.hid (fun W => within5_any n 4 W (by omega) (by omega))
    obtain ⟨j, hj, hjm⟩ : ∃ j : Nat, n % 4 = (j : Int) ∧ j < 4 := ⟨(n % 4).toNat, by omega, by omega⟩
    rw [hj] at HN
    clear hj
    obtain ⟨v, hv⟩ : ∃ v : Int, (#[.int .i64 (-1), .int .i64 256, .int .i64 1, .int .i64 n] : Array Value)[j]? = some (.int .i64 v) := by
      rcases (by omega : j = 0 ∨ j = 1 ∨ j = 2 ∨ j = 3) with rfl | rfl | rfl | rfl <;> exact ⟨_, rfl⟩
    have j0 : (0 : Int) ≤ (j : Int) := by omega
    have j1 : (j : Int) < 4 := by omega
    go_wp2_with fail
    refine (HN.out _).mono ?_
    rintro e wl ⟨rfl, rfl⟩
    have hq := ((Blk.new w4 3 #[.int .i64 (-1), .int .i64 256, .int .i64 1, .int .i64 n]).at j).trans hv
    clear qG zG
    replace hG := hG.alloc (.cells #[.int .i64 (-1), .int .i64 256, .int .i64 1, .int .i64 n] 3)
    have qG := hG.at
    unfold frBox at qG
    have zG := hG.frozen
    replace hD := hD.alloc (.cells #[.int .i64 (-1), .int .i64 256, .int .i64 1, .int .i64 n] 3)
    replace hrg := hrg.alloc (.cells #[.int .i64 (-1), .int .i64 256, .int .i64 1, .int .i64 n] 3)
    replace hB := hB.alloc hB.size (.cells #[.int .i64 (-1), .int .i64 256, .int .i64 1, .int .i64 n] 3)
    go_upto_region 27 with fail
    replace hG : Blk ((w4.alloc (.cells #[.int .i64 (-1), .int .i64 256, .int .i64 1, .int .i64 n] 3)).setCell ⟨gb, 4, none⟩ (.int .i64 v)) gb 29 (frBox ⟨g.K, g.R, g.S, ⟨g.P.K, v⟩, g.E⟩ ga gc) := hG.set 4 _
    replace hD := hD.far (p := ⟨gb, 4, none⟩) (by show db ≠ gb; omega) (.int .i64 v)
    replace hrg := hrg.far2 gb 4 (.int .i64 v) hgne
    replace hB := hB.setCell (p := ⟨gb, 4, none⟩) (by show w.heap.size ≤ gb; omega) (.int .i64 v)
    generalize (w4.alloc (.cells #[.int .i64 (-1), .int .i64 256, .int .i64 1, .int .i64 n] 3)).setCell ⟨gb, 4, none⟩ (.int .i64 v) = wx at *
    clear qG zG
    obtain ⟨g2, ga2, gc2, hG, hrg⟩ : ∃ (g2 : Fr) (ga2 : Option Addr) (gc2 : Nat), Blk wx gb 29 (frBox g2 ga2 gc2) ∧ RowT wx ga2 g2.E := ⟨_, _, _, hG, hrg⟩
    refine region_slots [some 117, some 118, some 119, some 120, some 121, some 122, some 123, some 10] [none, none, none, none, none, none, none, none] 124 8 rfl (by kernel_rfl) (by kernel_rfl) rfl rfl ?_
    apply step_fix
    · intro a W Zs hS hFm hz hd
      have h11 := hFm.old 11 rfl
      conv at h11 => rhs; whnf
      replace h11 := ev_get hFm.size h11
      have hq := (hD.drew1.later hS).at
      unfold confBox at hq
      refine .inl ⟨wanted_none rfl _, fun K hK => ?_⟩
      have HK := Lib.hid hK
      clear hd hFm hK
      go_simp
      exact HK.out _ _ rfl (Below.refl _ _)
    simp only [List.nil_append, List.cons_append]
    apply step_fix
    · intro a W Zs hS hFm hz hd
      have h12 := hFm.old 12 rfl
      conv at h12 => rhs; whnf
      replace h12 := ev_get hFm.size h12
      have hq := (hG.drew1.later hS).at
      unfold frBox at hq
      refine .inl ⟨wanted_none rfl _, fun K hK => ?_⟩
      have HK := Lib.hid hK
      clear hd hFm hK
      go_simp
      exact HK.out _ _ rfl (Below.refl _ _)
    simp only [List.nil_append, List.cons_append]
    apply step_fix
    · intro a W Zs hS hFm hz hd
      have h117 := ev_get hFm.size (hd 0 117 rfl rfl)
      have h118 := ev_get hFm.size (hd 1 118 rfl rfl)
      refine .inl ⟨wanted_none rfl _, fun K hK => ?_⟩
      have HK := Lib.hid hK
      clear hd hFm hK
      go_simp
      refine (HK1.out _ hok g2 ga2 gc2 (hrg.drew1.later hS)).mono ?_
      rintro e W' ⟨rfl, hb⟩
      exact HK.out _ _ rfl hb
    simp only [List.nil_append, List.cons_append]
    apply step_fix
    · intro a W Zs hS hFm hz hd
      have h11 := hFm.old 11 rfl
      conv at h11 => rhs; whnf
      replace h11 := ev_get hFm.size h11
      have hq := (hD.drew1.later hS).at
      unfold confBox at hq
      refine .inl ⟨wanted_none rfl _, fun K hK => ?_⟩
      have HK := Lib.hid hK
      clear hd hFm hK
      go_simp
      exact HK.out _ _ rfl (Below.refl _ _)
    simp only [List.nil_append, List.cons_append]
    apply step_fix
    · intro a W Zs hS hFm hz hd
      have h12 := hFm.old 12 rfl
      conv at h12 => rhs; whnf
      replace h12 := ev_get hFm.size h12
      have hq := (hG.drew1.later hS).at
      unfold frBox at hq
      refine .inl ⟨wanted_none rfl _, fun K hK => ?_⟩
      have HK := Lib.hid hK
      clear hd hFm hK
      go_simp
      exact HK.out _ _ rfl (Below.refl _ _)
    simp only [List.nil_append, List.cons_append]
    apply step_fix
    · intro a W Zs hS hFm hz hd
      have h120 := ev_get hFm.size (hd 3 120 rfl rfl)
      have h121 := ev_get hFm.size (hd 4 121 rfl rfl)
      refine .inl ⟨wanted_none rfl _, fun K hK => ?_⟩
      have HK := Lib.hid hK
      clear hd hFm hK
      go_simp
      refine (HK2.out _ hok g2 ga2 gc2 (hrg.drew1.later hS)).mono ?_
      rintro e W' ⟨rfl, hb⟩
      exact HK.out _ _ rfl hb
    simp only [List.nil_append, List.cons_append]
    apply step_fix
    · intro a W Zs hS hFm hz hd
      have h119 := ev_get hFm.size (hd 2 119 rfl rfl)
      have h122 := ev_get hFm.size (hd 5 122 rfl rfl)
      refine .inl ⟨wanted_none rfl _, fun K hK => ?_⟩
      have HK := Lib.hid hK
      clear hd hFm hK
      go_simp
      exact HK.out _ _ rfl (Below.refl _ _)
    simp only [List.nil_append, List.cons_append]
    apply step_fix
    · intro a W Zs hS hFm hz hd
      have h123 := ev_get hFm.size (hd 6 123 rfl rfl)
      refine .inl ⟨wanted_none rfl _, fun K hK => ?_⟩
      have HK := Lib.hid hK
      clear hd hFm hK
      go_simp
      exact HK.out _ _ rfl (Below.refl _ _)
    simp only [List.nil_append, List.cons_append]
    intro a w9 Zs hS hFm hz hd
    have e10 := hd 7 10 (by decide) rfl
    have e0 := hFm.old 0 rfl
    conv at e0 => rhs; whnf
    have e1 := hFm.old 1 rfl
    conv at e1 => rhs; whnf
    have e2 := hFm.old 2 rfl
    conv at e2 => rhs; whnf
    have e3 := hFm.old 3 rfl
    conv at e3 => rhs; whnf
    have e4 := hFm.old 4 rfl
    conv at e4 => rhs; whnf
    have e5 := hFm.old 5 rfl
    conv at e5 => rhs; whnf
    have e6 := hFm.old 6 rfl
    conv at e6 => rhs; whnf
    have e7 := hFm.old 7 rfl
    conv at e7 => rhs; whnf
    have e8 := hFm.old 8 rfl
    conv at e8 => rhs; whnf
    have e9 := hFm.old 9 rfl
    conv at e9 => rhs; whnf
    have e11 := hFm.old 11 rfl
    conv at e11 => rhs; whnf
    have e12 := hFm.old 12 rfl
    conv at e12 => rhs; whnf
    have e13 := hFm.old 13 rfl
    conv at e13 => rhs; whnf
    have e14 := hFm.old 14 rfl
    conv at e14 => rhs; whnf
    have e15 := hFm.old 15 rfl
    conv at e15 => rhs; whnf
    have e16 := hFm.old 16 rfl
    conv at e16 => rhs; whnf
    have e17 := hFm.old 17 rfl
    conv at e17 => rhs; whnf
    have e18 := hFm.old 18 rfl
    conv at e18 => rhs; whnf
    have e19 := hFm.old 19 rfl
    conv at e19 => rhs; whnf
    have e20 := hFm.old 20 rfl
    conv at e20 => rhs; whnf
    have e21 := hFm.old 21 rfl
    conv at e21 => rhs; whnf
    have e22 := hFm.old 22 rfl
    conv at e22 => rhs; whnf
    have e23 := hFm.old 23 rfl
    conv at e23 => rhs; whnf
    have e24 := hFm.old 24 rfl
    conv at e24 => rhs; whnf
    have e25 := hFm.old 25 rfl
    conv at e25 => rhs; whnf
    have e26 := hFm.old 26 rfl
    conv at e26 => rhs; whnf
    have e27 := hFm.old 27 rfl
    conv at e27 => rhs; whnf
    have e28 := hFm.old 28 rfl
    conv at e28 => rhs; whnf
    have e29 := hFm.old 29 rfl
    conv at e29 => rhs; whnf
    have e30 := hFm.old 30 rfl
    conv at e30 => rhs; whnf
    have e31 := hFm.old 31 rfl
    conv at e31 => rhs; whnf
    have e32 := hFm.old 32 rfl
    conv at e32 => rhs; whnf
    have e33 := hFm.old 33 rfl
    conv at e33 => rhs; whnf
    have e34 := hFm.old 34 rfl
    conv at e34 => rhs; whnf
    have e35 := hFm.old 35 rfl
    conv at e35 => rhs; whnf
    have e36 := hFm.old 36 rfl
    conv at e36 => rhs; whnf
    have e37 := hFm.old 37 rfl
    conv at e37 => rhs; whnf
    have e38 := hFm.old 38 rfl
    conv at e38 => rhs; whnf
    have e39 := hFm.old 39 rfl
    conv at e39 => rhs; whnf
    have e40 := hFm.old 40 rfl
    conv at e40 => rhs; whnf
    have e41 := hFm.old 41 rfl
    conv at e41 => rhs; whnf
    have e42 := hFm.old 42 rfl
    conv at e42 => rhs; whnf
    have e43 := hFm.old 43 rfl
    conv at e43 => rhs; whnf
    have e44 := hFm.old 44 rfl
    conv at e44 => rhs; whnf
    have e45 := hFm.old 45 rfl
    conv at e45 => rhs; whnf
    have e46 := hFm.old 46 rfl
    conv at e46 => rhs; whnf
    have e47 := hFm.old 47 rfl
    conv at e47 => rhs; whnf
    have e48 := hFm.old 48 rfl
    conv at e48 => rhs; whnf
    have e49 := hFm.old 49 rfl
    conv at e49 => rhs; whnf
    have e50 := hFm.old 50 rfl
    conv at e50 => rhs; whnf
    have e51 := hFm.old 51 rfl
    conv at e51 => rhs; whnf
    have e52 := hFm.old 52 rfl
    conv at e52 => rhs; whnf
    have e53 := hFm.old 53 rfl
    conv at e53 => rhs; whnf
    have e54 := hFm.old 54 rfl
    conv at e54 => rhs; whnf
    have e55 := hFm.old 55 rfl
    conv at e55 => rhs; whnf
    have e56 := hFm.old 56 rfl
    conv at e56 => rhs; whnf
    have e57 := hFm.old 57 rfl
    conv at e57 => rhs; whnf
    have e58 := hFm.old 58 rfl
    conv at e58 => rhs; whnf
    have e59 := hFm.old 59 rfl
    conv at e59 => rhs; whnf
    have e60 := hFm.old 60 rfl
    conv at e60 => rhs; whnf
    have e61 := hFm.old 61 rfl
    conv at e61 => rhs; whnf
    have e62 := hFm.old 62 rfl
    conv at e62 => rhs; whnf
    have e63 := hFm.old 63 rfl
    conv at e63 => rhs; whnf
    have e64 := hFm.old 64 rfl
    conv at e64 => rhs; whnf
    have e65 := hFm.old 65 rfl
    conv at e65 => rhs; whnf
    have e66 := hFm.old 66 rfl
    conv at e66 => rhs; whnf
    have e67 := hFm.old 67 rfl
    conv at e67 => rhs; whnf
    have e68 := hFm.old 68 rfl
    conv at e68 => rhs; whnf
    have e69 := hFm.old 69 rfl
    conv at e69 => rhs; whnf
    have e70 := hFm.old 70 rfl
    conv at e70 => rhs; whnf
    have e71 := hFm.old 71 rfl
    conv at e71 => rhs; whnf
    have e72 := hFm.old 72 rfl
    conv at e72 => rhs; whnf
    have e73 := hFm.old 73 rfl
    conv at e73 => rhs; whnf
    have e74 := hFm.old 74 rfl
    conv at e74 => rhs; whnf
    have e75 := hFm.old 75 rfl
    conv at e75 => rhs; whnf
    have e76 := hFm.old 76 rfl
    conv at e76 => rhs; whnf
    have e77 := hFm.old 77 rfl
    conv at e77 => rhs; whnf
    have e78 := hFm.old 78 rfl
    conv at e78 => rhs; whnf
    have e79 := hFm.old 79 rfl
    conv at e79 => rhs; whnf
    have e80 := hFm.old 80 rfl
    conv at e80 => rhs; whnf
    have e81 := hFm.old 81 rfl
    conv at e81 => rhs; whnf
    have e82 := hFm.old 82 rfl
    conv at e82 => rhs; whnf
    have e83 := hFm.old 83 rfl
    conv at e83 => rhs; whnf
    have e84 := hFm.old 84 rfl
    conv at e84 => rhs; whnf
    have e85 := hFm.old 85 rfl
    conv at e85 => rhs; whnf
    have e86 := hFm.old 86 rfl
    conv at e86 => rhs; whnf
    have e87 := hFm.old 87 rfl
    conv at e87 => rhs; whnf
    have e88 := hFm.old 88 rfl
    conv at e88 => rhs; whnf
    have e89 := hFm.old 89 rfl
    conv at e89 => rhs; whnf
    have e90 := hFm.old 90 rfl
    conv at e90 => rhs; whnf
    have e91 := hFm.old 91 rfl
    conv at e91 => rhs; whnf
    have e92 := hFm.old 92 rfl
    conv at e92 => rhs; whnf
    have e93 := hFm.old 93 rfl
    conv at e93 => rhs; whnf
    have e94 := hFm.old 94 rfl
    conv at e94 => rhs; whnf
    have e95 := hFm.old 95 rfl
    conv at e95 => rhs; whnf
    have e96 := hFm.old 96 rfl
    conv at e96 => rhs; whnf
    have e97 := hFm.old 97 rfl
    conv at e97 => rhs; whnf
    have e98 := hFm.old 98 rfl
    conv at e98 => rhs; whnf
    have e99 := hFm.old 99 rfl
    conv at e99 => rhs; whnf
    have e100 := hFm.old 100 rfl
    conv at e100 => rhs; whnf
    have e101 := hFm.old 101 rfl
    conv at e101 => rhs; whnf
    have e102 := hFm.old 102 rfl
    conv at e102 => rhs; whnf
    have e103 := hFm.old 103 rfl
    conv at e103 => rhs; whnf
    have e104 := hFm.old 104 rfl
    conv at e104 => rhs; whnf
    have e105 := hFm.old 105 rfl
    conv at e105 => rhs; whnf
    have e106 := hFm.old 106 rfl
    conv at e106 => rhs; whnf
    have e107 := hFm.old 107 rfl
    conv at e107 => rhs; whnf
    have e108 := hFm.old 108 rfl
    conv at e108 => rhs; whnf
    have e109 := hFm.old 109 rfl
    conv at e109 => rhs; whnf
    have e110 := hFm.old 110 rfl
    conv at e110 => rhs; whnf
    have e111 := hFm.old 111 rfl
    conv at e111 => rhs; whnf
    have e112 := hFm.old 112 rfl
    conv at e112 => rhs; whnf
    have e113 := hFm.old 113 rfl
    conv at e113 => rhs; whnf
    have e114 := hFm.old 114 rfl
    conv at e114 => rhs; whnf
    have e115 := hFm.old 115 rfl
    conv at e115 => rhs; whnf
    have e116 := hFm.old 116 rfl
    conv at e116 => rhs; whnf
    have hsz := hFm.size
    have hdf := hFm.defers
    clear hd hFm
    obtain ⟨t, df⟩ := a
    simp only at hsz hdf
    subst hdf
    obtain ⟨x, hx⟩ : ∃ x : Nat → Value, ∀ i, t.getD i undef = x i := ⟨fun i => t.getD i undef, fun _ => rfl⟩
    have h10 := (hx 10).symm.trans e10
    have h0 := (hx 0).symm.trans e0
    have h1 := (hx 1).symm.trans e1
    have h2 := (hx 2).symm.trans e2
    have h3 := (hx 3).symm.trans e3
    have h4 := (hx 4).symm.trans e4
    have h5 := (hx 5).symm.trans e5
    have h6 := (hx 6).symm.trans e6
    have h7 := (hx 7).symm.trans e7
    have h8 := (hx 8).symm.trans e8
    have h9 := (hx 9).symm.trans e9
    have h11 := (hx 11).symm.trans e11
    have h12 := (hx 12).symm.trans e12
    have h13 := (hx 13).symm.trans e13
    have h14 := (hx 14).symm.trans e14
    have h15 := (hx 15).symm.trans e15
    have h16 := (hx 16).symm.trans e16
    have h17 := (hx 17).symm.trans e17
    have h18 := (hx 18).symm.trans e18
    have h19 := (hx 19).symm.trans e19
    have h20 := (hx 20).symm.trans e20
    have h21 := (hx 21).symm.trans e21
    have h22 := (hx 22).symm.trans e22
    have h23 := (hx 23).symm.trans e23
    have h24 := (hx 24).symm.trans e24
    have h25 := (hx 25).symm.trans e25
    have h26 := (hx 26).symm.trans e26
    have h27 := (hx 27).symm.trans e27
    have h28 := (hx 28).symm.trans e28
    have h29 := (hx 29).symm.trans e29
    have h30 := (hx 30).symm.trans e30
    have h31 := (hx 31).symm.trans e31
    have h32 := (hx 32).symm.trans e32
    have h33 := (hx 33).symm.trans e33
    have h34 := (hx 34).symm.trans e34
    have h35 := (hx 35).symm.trans e35
    have h36 := (hx 36).symm.trans e36
    have h37 := (hx 37).symm.trans e37
    have h38 := (hx 38).symm.trans e38
    have h39 := (hx 39).symm.trans e39
    have h40 := (hx 40).symm.trans e40
    have h41 := (hx 41).symm.trans e41
    have h42 := (hx 42).symm.trans e42
    have h43 := (hx 43).symm.trans e43
    have h44 := (hx 44).symm.trans e44
    have h45 := (hx 45).symm.trans e45
    have h46 := (hx 46).symm.trans e46
    have h47 := (hx 47).symm.trans e47
    have h48 := (hx 48).symm.trans e48
    have h49 := (hx 49).symm.trans e49
    have h50 := (hx 50).symm.trans e50
    have h51 := (hx 51).symm.trans e51
    have h52 := (hx 52).symm.trans e52
    have h53 := (hx 53).symm.trans e53
    have h54 := (hx 54).symm.trans e54
    have h55 := (hx 55).symm.trans e55
    have h56 := (hx 56).symm.trans e56
    have h57 := (hx 57).symm.trans e57
    have h58 := (hx 58).symm.trans e58
    have h59 := (hx 59).symm.trans e59
    have h60 := (hx 60).symm.trans e60
    have h61 := (hx 61).symm.trans e61
    have h62 := (hx 62).symm.trans e62
    have h63 := (hx 63).symm.trans e63
    have h64 := (hx 64).symm.trans e64
    have h65 := (hx 65).symm.trans e65
    have h66 := (hx 66).symm.trans e66
    have h67 := (hx 67).symm.trans e67
    have h68 := (hx 68).symm.trans e68
    have h69 := (hx 69).symm.trans e69
    have h70 := (hx 70).symm.trans e70
    have h71 := (hx 71).symm.trans e71
    have h72 := (hx 72).symm.trans e72
    have h73 := (hx 73).symm.trans e73
    have h74 := (hx 74).symm.trans e74
    have h75 := (hx 75).symm.trans e75
    have h76 := (hx 76).symm.trans e76
    have h77 := (hx 77).symm.trans e77
    have h78 := (hx 78).symm.trans e78
    have h79 := (hx 79).symm.trans e79
    have h80 := (hx 80).symm.trans e80
    have h81 := (hx 81).symm.trans e81
    have h82 := (hx 82).symm.trans e82
    have h83 := (hx 83).symm.trans e83
    have h84 := (hx 84).symm.trans e84
    have h85 := (hx 85).symm.trans e85
    have h86 := (hx 86).symm.trans e86
    have h87 := (hx 87).symm.trans e87
    have h88 := (hx 88).symm.trans e88
    have h89 := (hx 89).symm.trans e89
    have h90 := (hx 90).symm.trans e90
    have h91 := (hx 91).symm.trans e91
    have h92 := (hx 92).symm.trans e92
    have h93 := (hx 93).symm.trans e93
    have h94 := (hx 94).symm.trans e94
    have h95 := (hx 95).symm.trans e95
    have h96 := (hx 96).symm.trans e96
    have h97 := (hx 97).symm.trans e97
    have h98 := (hx 98).symm.trans e98
    have h99 := (hx 99).symm.trans e99
    have h100 := (hx 100).symm.trans e100
    have h101 := (hx 101).symm.trans e101
    have h102 := (hx 102).symm.trans e102
    have h103 := (hx 103).symm.trans e103
    have h104 := (hx 104).symm.trans e104
    have h105 := (hx 105).symm.trans e105
    have h106 := (hx 106).symm.trans e106
    have h107 := (hx 107).symm.trans e107
    have h108 := (hx 108).symm.trans e108
    have h109 := (hx 109).symm.trans e109
    have h110 := (hx 110).symm.trans e110
    have h111 := (hx 111).symm.trans e111
    have h112 := (hx 112).symm.trans e112
    have h113 := (hx 113).symm.trans e113
    have h114 := (hx 114).symm.trans e114
    have h115 := (hx 115).symm.trans e115
    have h116 := (hx 116).symm.trans e116
    have ht' : t = #[x 0, x 1, x 2, x 3, x 4, x 5, x 6, x 7, x 8, x 9, x 10, x 11, x 12, x 13, x 14, x 15, x 16, x 17, x 18, x 19, x 20, x 21, x 22, x 23, x 24, x 25, x 26, x 27, x 28, x 29, x 30, x 31, x 32, x 33, x 34, x 35, x 36, x 37, x 38, x 39, x 40, x 41, x 42, x 43, x 44, x 45, x 46, x 47, x 48, x 49, x 50, x 51, x 52, x 53, x 54, x 55, x 56, x 57, x 58, x 59, x 60, x 61, x 62, x 63, x 64, x 65, x 66, x 67, x 68, x 69, x 70, x 71, x 72, x 73, x 74, x 75, x 76, x 77, x 78, x 79, x 80, x 81, x 82, x 83, x 84, x 85, x 86, x 87, x 88, x 89, x 90, x 91, x 92, x 93, x 94, x 95, x 96, x 97, x 98, x 99, x 100, x 101, x 102, x 103, x 104, x 105, x 106, x 107, x 108, x 109, x 110, x 111, x 112, x 113, x 114, x 115, x 116, x 117, x 118, x 119, x 120, x 121, x 122, x 123] := frame_lit t 124 hsz x hx
    clear hx hsz hz e10 e0 e1 e2 e3 e4 e5 e6 e7 e8 e9 e11 e12 e13 e14 e15 e16 e17 e18 e19 e20 e21 e22 e23 e24 e25 e26 e27 e28 e29 e30 e31 e32 e33 e34 e35 e36 e37 e38 e39 e40 e41 e42 e43 e44 e45 e46 e47 e48 e49 e50 e51 e52 e53 e54 e55 e56 e57 e58 e59 e60 e61 e62 e63 e64 e65 e66 e67 e68 e69 e70 e71 e72 e73 e74 e75 e76 e77 e78 e79 e80 e81 e82 e83 e84 e85 e86 e87 e88 e89 e90 e91 e92 e93 e94 e95 e96 e97 e98 e99 e100 e101 e102 e103 e104 e105 e106 e107 e108 e109 e110 e111 e112 e113 e114 e115 e116
    subst ht'
    dsimp only
    rw [h10, h0, h1, h2, h3, h4, h5, h6, h7, h8, h9, h11, h12, h13, h14, h15, h16, h17, h18, h19, h20, h21, h22, h23, h24, h25, h26, h27, h28, h29, h30, h31, h32, h33, h34, h35, h36, h37, h38, h39, h40, h41, h42, h43, h44, h45, h46, h47, h48, h49, h50, h51, h52, h53, h54, h55, h56, h57, h58, h59, h60, h61, h62, h63, h64, h65, h66, h67, h68, h69, h70, h71, h72, h73, h74, h75, h76, h77, h78, h79, h80, h81, h82, h83, h84, h85, h86, h87, h88, h89, h90, h91, h92, h93, h94, h95, h96, h97, h98, h99, h100, h101, h102, h103, h104, h105, h106, h107, h108, h109, h110, h111, h112, h113, h114, h115, h116]
    clear h10 h0 h1 h2 h3 h4 h5 h6 h7 h8 h9 h11 h12 h13 h14 h15 h16 h17 h18 h19 h20 h21 h22 h23 h24 h25 h26 h27 h28 h29 h30 h31 h32 h33 h34 h35 h36 h37 h38 h39 h40 h41 h42 h43 h44 h45 h46 h47 h48 h49 h50 h51 h52 h53 h54 h55 h56 h57 h58 h59 h60 h61 h62 h63 h64 h65 h66 h67 h68 h69 h70 h71 h72 h73 h74 h75 h76 h77 h78 h79 h80 h81 h82 h83 h84 h85 h86 h87 h88 h89 h90 h91 h92 h93 h94 h95 h96 h97 h98 h99 h100 h101 h102 h103 h104 h105 h106 h107 h108 h109 h110 h111 h112 h113 h114 h115 h116
    have hb9 := from_drew hS
    replace hB := hB.trans (hb9.mono hB.size)
    go_wp2
    go_ret
    exact ⟨rfl, hB⟩
  · rw [hi] at HW
    clear hi
    go_wp2_with fail
    refine (HW.out _).mono ?_
    rintro e wl ⟨rfl, rfl⟩
    have qG := hG.at
    unfold frBox at qG
    have zG := hG.frozen
    have hgl := hG.lt
    have hdl := hD.lt
    have hin := hrg.2.1
    have hown : OwnT w4.heap.size (w4.alloc (.cells #[] 26)) (.slice (some ⟨w4.heap.size, 0, none⟩) 0 0) [] := OwnT.empty w4 w4.heap.size (Nat.le_refl _)
    have hw4 := hB.size
    clear qG zG
    replace hG := hG.alloc (.cells #[] 26)
    replace hD := hD.alloc (.cells #[] 26)
    replace hrg := hrg.alloc (.cells #[] 26)
    replace hB := hB.alloc hB.size (.cells #[] 26)
    have qG := hG.at
    unfold frBox at qG
    go_wp2_with (first
      | (at_builtin; have hx0 := hown; refine wpList_appRT _ rfl _ _ rfl w4.heap.size (.slice (some ⟨w4.heap.size, 0, none⟩) 0 0) [] rfl hown ga g.E gc rfl hrg (by simp) (by omega) (by simp) ?_; intro v1 w1 ho1 hg1; obtain ⟨av, cv, rfl⟩ := ho1.form; rw [List.nil_append] at ho1; replace hG := hG.grown hg1 (fun e => by simp [Value.ownBlock] at e; omega); replace hD := hD.grown hg1 (fun e => by simp [Value.ownBlock] at e; omega); replace hB := below_grown hB hB.size hg1 (fun x hx => by simp [Value.ownBlock] at hx; omega); clear qG; have hw1 : w4.heap.size ≤ w1.heap.size := (by have := hg1.size; simp at this; omega); clear hown hx0)
      | (at_builtin; have hx1 := ho1; refine wpList_appT _ rfl _ _ rfl w4.heap.size (.slice av g.E.length cv) g.E rfl (ho1.later (alloc_below _ _)) w1.heap.size 1 ⟨0, 0⟩ rfl (heap_alloc_new _ _) (by omega) (by simp; omega) ?_; intro g5 cap5 w5 ho2 hg2 h3 h4; replace hG := (hG.alloc _).grown hg2 (fun e => by have := (ho1.lt _ e.symm).1; omega); replace hD := (hD.alloc _).grown hg2 (fun e => by have := (ho1.lt _ e.symm).1; omega); replace hB := below_grown (hB.alloc hB.size _) (hB.alloc hB.size _).size hg2 (fun x hx => by have := (ho1.lt _ hx).1; omega); clear hx1; have qG := hG.at; unfold frBox at qG; have zG := hG.frozen))
    go_upto_region 27 with fail
    have hle : (g.E ++ [(⟨0, 0⟩ : It)]).length = g.E.length + 1 := by simp
    replace hG : Blk (w5.setCell ⟨gb, 5, none⟩ (.slice (some ⟨g5, 0, none⟩) (g.E.length + 1) cap5)) gb 29 (frBox ⟨g.K, g.R, g.S, g.P, g.E ++ [⟨0, 0⟩]⟩ (some ⟨g5, 0, none⟩) cap5) := by
      unfold frBox
      show Blk _ gb _ #[.int .i64 g.K, .int .i64 g.R, .int .i64 g.S, .int .i64 g.P.K, .int .i64 g.P.V, .slice (some ⟨g5, 0, none⟩) (g.E ++ [(⟨0, 0⟩ : It)]).length cap5]
      rw [hle]
      exact hG.set 5 _
    replace hD := hD.far (p := ⟨gb, 5, none⟩) (by show db ≠ gb; omega) (.slice (some ⟨g5, 0, none⟩) (g.E.length + 1) cap5)
    replace hB := hB.setCell (p := ⟨gb, 5, none⟩) (by show w.heap.size ≤ gb; omega) (.slice (some ⟨g5, 0, none⟩) (g.E.length + 1) cap5)
    clear hrg
    have hrg := (ho2.far ⟨gb, 5, none⟩ (.slice (some ⟨g5, 0, none⟩) (g.E.length + 1) cap5) (by show gb < w4.heap.size; omega)).row (by omega) (by
      intro t ht
      rcases List.mem_append.1 ht with h | h
      · exact hin t h
      · simp at h
        rw [h]
        exact ⟨⟨by show (-9223372036854775808 : Int) ≤ 0; decide, by show (0 : Int) ≤ 9223372036854775807; decide⟩, ⟨by show (-9223372036854775808 : Int) ≤ 0; decide, by show (0 : Int) ≤ 9223372036854775807; decide⟩⟩)
    generalize w5.setCell ⟨gb, 5, none⟩ (.slice (some ⟨g5, 0, none⟩) (g.E.length + 1) cap5) = wx at *
    clear hle ho1 ho2 hg1 hg2
    clear qG zG
    obtain ⟨g2, ga2, gc2, hG, hrg⟩ : ∃ (g2 : Fr) (ga2 : Option Addr) (gc2 : Nat), Blk wx gb 29 (frBox g2 ga2 gc2) ∧ RowT wx ga2 g2.E := ⟨_, _, _, hG, hrg⟩
    refine region_slots [some 117, some 118, some 119, some 120, some 121, some 122, some 123, some 10] [none, none, none, none, none, none, none, none] 124 8 rfl (by kernel_rfl) (by kernel_rfl) rfl rfl ?_
    apply step_fix
    · intro a W Zs hS hFm hz hd
      have h11 := hFm.old 11 rfl
      conv at h11 => rhs; whnf
      replace h11 := ev_get hFm.size h11
      have hq := (hD.drew1.later hS).at
      unfold confBox at hq
      refine .inl ⟨wanted_none rfl _, fun K hK => ?_⟩
      have HK := Lib.hid hK
      clear hd hFm hK
      go_simp
      exact HK.out _ _ rfl (Below.refl _ _)
    simp only [List.nil_append, List.cons_append]
    apply step_fix
    · intro a W Zs hS hFm hz hd
      have h12 := hFm.old 12 rfl
      conv at h12 => rhs; whnf
      replace h12 := ev_get hFm.size h12
      have hq := (hG.drew1.later hS).at
      unfold frBox at hq
      refine .inl ⟨wanted_none rfl _, fun K hK => ?_⟩
      have HK := Lib.hid hK
      clear hd hFm hK
      go_simp
      exact HK.out _ _ rfl (Below.refl _ _)
    simp only [List.nil_append, List.cons_append]
    apply step_fix
    · intro a W Zs hS hFm hz hd
      have h117 := ev_get hFm.size (hd 0 117 rfl rfl)
      have h118 := ev_get hFm.size (hd 1 118 rfl rfl)
      refine .inl ⟨wanted_none rfl _, fun K hK => ?_⟩
      have HK := Lib.hid hK
      clear hd hFm hK
      go_simp
      refine (HK1.out _ hok g2 ga2 gc2 (hrg.drew1.later hS)).mono ?_
      rintro e W' ⟨rfl, hb⟩
      exact HK.out _ _ rfl hb
    simp only [List.nil_append, List.cons_append]
    apply step_fix
    · intro a W Zs hS hFm hz hd
      have h11 := hFm.old 11 rfl
      conv at h11 => rhs; whnf
      replace h11 := ev_get hFm.size h11
      have hq := (hD.drew1.later hS).at
      unfold confBox at hq
      refine .inl ⟨wanted_none rfl _, fun K hK => ?_⟩
      have HK := Lib.hid hK
      clear hd hFm hK
      go_simp
      exact HK.out _ _ rfl (Below.refl _ _)
    simp only [List.nil_append, List.cons_append]
    apply step_fix
    · intro a W Zs hS hFm hz hd
      have h12 := hFm.old 12 rfl
      conv at h12 => rhs; whnf
      replace h12 := ev_get hFm.size h12
      have hq := (hG.drew1.later hS).at
      unfold frBox at hq
      refine .inl ⟨wanted_none rfl _, fun K hK => ?_⟩
      have HK := Lib.hid hK
      clear hd hFm hK
      go_simp
      exact HK.out _ _ rfl (Below.refl _ _)
    simp only [List.nil_append, List.cons_append]
    apply step_fix
    · intro a W Zs hS hFm hz hd
      have h120 := ev_get hFm.size (hd 3 120 rfl rfl)
      have h121 := ev_get hFm.size (hd 4 121 rfl rfl)
      refine .inl ⟨wanted_none rfl _, fun K hK => ?_⟩
      have HK := Lib.hid hK
      clear hd hFm hK
      go_simp
      refine (HK2.out _ hok g2 ga2 gc2 (hrg.drew1.later hS)).mono ?_
      rintro e W' ⟨rfl, hb⟩
      exact HK.out _ _ rfl hb
    simp only [List.nil_append, List.cons_append]
    apply step_fix
    · intro a W Zs hS hFm hz hd
      have h119 := ev_get hFm.size (hd 2 119 rfl rfl)
      have h122 := ev_get hFm.size (hd 5 122 rfl rfl)
      refine .inl ⟨wanted_none rfl _, fun K hK => ?_⟩
      have HK := Lib.hid hK
      clear hd hFm hK
      go_simp
      exact HK.out _ _ rfl (Below.refl _ _)
    simp only [List.nil_append, List.cons_append]
    apply step_fix
    · intro a W Zs hS hFm hz hd
      have h123 := ev_get hFm.size (hd 6 123 rfl rfl)
      refine .inl ⟨wanted_none rfl _, fun K hK => ?_⟩
      have HK := Lib.hid hK
      clear hd hFm hK
      go_simp
      exact HK.out _ _ rfl (Below.refl _ _)
    simp only [List.nil_append, List.cons_append]
    intro a w9 Zs hS hFm hz hd
    have e10 := hd 7 10 (by decide) rfl
    have e0 := hFm.old 0 rfl
    conv at e0 => rhs; whnf
    have e1 := hFm.old 1 rfl
    conv at e1 => rhs; whnf
    have e2 := hFm.old 2 rfl
    conv at e2 => rhs; whnf
    have e3 := hFm.old 3 rfl
    conv at e3 => rhs; whnf
    have e4 := hFm.old 4 rfl
    conv at e4 => rhs; whnf
    have e5 := hFm.old 5 rfl
    conv at e5 => rhs; whnf
    have e6 := hFm.old 6 rfl
    conv at e6 => rhs; whnf
    have e7 := hFm.old 7 rfl
    conv at e7 => rhs; whnf
    have e8 := hFm.old 8 rfl
    conv at e8 => rhs; whnf
    have e9 := hFm.old 9 rfl
    conv at e9 => rhs; whnf
    have e11 := hFm.old 11 rfl
    conv at e11 => rhs; whnf
    have e12 := hFm.old 12 rfl
    conv at e12 => rhs; whnf
    have e13 := hFm.old 13 rfl
    conv at e13 => rhs; whnf
    have e14 := hFm.old 14 rfl
    conv at e14 => rhs; whnf
    have e15 := hFm.old 15 rfl
    conv at e15 => rhs; whnf
    have e16 := hFm.old 16 rfl
    conv at e16 => rhs; whnf
    have e17 := hFm.old 17 rfl
    conv at e17 => rhs; whnf
    have e18 := hFm.old 18 rfl
    conv at e18 => rhs; whnf
    have e19 := hFm.old 19 rfl
    conv at e19 => rhs; whnf
    have e20 := hFm.old 20 rfl
    conv at e20 => rhs; whnf
    have e21 := hFm.old 21 rfl
    conv at e21 => rhs; whnf
    have e22 := hFm.old 22 rfl
    conv at e22 => rhs; whnf
    have e23 := hFm.old 23 rfl
    conv at e23 => rhs; whnf
    have e24 := hFm.old 24 rfl
    conv at e24 => rhs; whnf
    have e25 := hFm.old 25 rfl
    conv at e25 => rhs; whnf
    have e26 := hFm.old 26 rfl
    conv at e26 => rhs; whnf
    have e27 := hFm.old 27 rfl
    conv at e27 => rhs; whnf
    have e28 := hFm.old 28 rfl
    conv at e28 => rhs; whnf
    have e29 := hFm.old 29 rfl
    conv at e29 => rhs; whnf
    have e30 := hFm.old 30 rfl
    conv at e30 => rhs; whnf
    have e31 := hFm.old 31 rfl
    conv at e31 => rhs; whnf
    have e32 := hFm.old 32 rfl
    conv at e32 => rhs; whnf
    have e33 := hFm.old 33 rfl
    conv at e33 => rhs; whnf
    have e34 := hFm.old 34 rfl
    conv at e34 => rhs; whnf
    have e35 := hFm.old 35 rfl
    conv at e35 => rhs; whnf
    have e36 := hFm.old 36 rfl
    conv at e36 => rhs; whnf
    have e37 := hFm.old 37 rfl
    conv at e37 => rhs; whnf
    have e38 := hFm.old 38 rfl
    conv at e38 => rhs; whnf
    have e39 := hFm.old 39 rfl
    conv at e39 => rhs; whnf
    have e40 := hFm.old 40 rfl
    conv at e40 => rhs; whnf
    have e41 := hFm.old 41 rfl
    conv at e41 => rhs; whnf
    have e42 := hFm.old 42 rfl
    conv at e42 => rhs; whnf
    have e43 := hFm.old 43 rfl
    conv at e43 => rhs; whnf
    have e44 := hFm.old 44 rfl
    conv at e44 => rhs; whnf
    have e45 := hFm.old 45 rfl
    conv at e45 => rhs; whnf
    have e46 := hFm.old 46 rfl
    conv at e46 => rhs; whnf
    have e47 := hFm.old 47 rfl
    conv at e47 => rhs; whnf
    have e48 := hFm.old 48 rfl
    conv at e48 => rhs; whnf
    have e49 := hFm.old 49 rfl
    conv at e49 => rhs; whnf
    have e50 := hFm.old 50 rfl
    conv at e50 => rhs; whnf
    have e51 := hFm.old 51 rfl
    conv at e51 => rhs; whnf
    have e52 := hFm.old 52 rfl
    conv at e52 => rhs; whnf
    have e53 := hFm.old 53 rfl
    conv at e53 => rhs; whnf
    have e54 := hFm.old 54 rfl
    conv at e54 => rhs; whnf
    have e55 := hFm.old 55 rfl
    conv at e55 => rhs; whnf
    have e56 := hFm.old 56 rfl
    conv at e56 => rhs; whnf
    have e57 := hFm.old 57 rfl
    conv at e57 => rhs; whnf
    have e58 := hFm.old 58 rfl
    conv at e58 => rhs; whnf
    have e59 := hFm.old 59 rfl
    conv at e59 => rhs; whnf
    have e60 := hFm.old 60 rfl
    conv at e60 => rhs; whnf
    have e61 := hFm.old 61 rfl
    conv at e61 => rhs; whnf
    have e62 := hFm.old 62 rfl
    conv at e62 => rhs; whnf
    have e63 := hFm.old 63 rfl
    conv at e63 => rhs; whnf
    have e64 := hFm.old 64 rfl
    conv at e64 => rhs; whnf
    have e65 := hFm.old 65 rfl
    conv at e65 => rhs; whnf
    have e66 := hFm.old 66 rfl
    conv at e66 => rhs; whnf
    have e67 := hFm.old 67 rfl
    conv at e67 => rhs; whnf
    have e68 := hFm.old 68 rfl
    conv at e68 => rhs; whnf
    have e69 := hFm.old 69 rfl
    conv at e69 => rhs; whnf
    have e70 := hFm.old 70 rfl
    conv at e70 => rhs; whnf
    have e71 := hFm.old 71 rfl
    conv at e71 => rhs; whnf
    have e72 := hFm.old 72 rfl
    conv at e72 => rhs; whnf
    have e73 := hFm.old 73 rfl
    conv at e73 => rhs; whnf
    have e74 := hFm.old 74 rfl
    conv at e74 => rhs; whnf
    have e75 := hFm.old 75 rfl
    conv at e75 => rhs; whnf
    have e76 := hFm.old 76 rfl
    conv at e76 => rhs; whnf
    have e77 := hFm.old 77 rfl
    conv at e77 => rhs; whnf
    have e78 := hFm.old 78 rfl
    conv at e78 => rhs; whnf
    have e79 := hFm.old 79 rfl
    conv at e79 => rhs; whnf
    have e80 := hFm.old 80 rfl
    conv at e80 => rhs; whnf
    have e81 := hFm.old 81 rfl
    conv at e81 => rhs; whnf
    have e82 := hFm.old 82 rfl
    conv at e82 => rhs; whnf
    have e83 := hFm.old 83 rfl
    conv at e83 => rhs; whnf
    have e84 := hFm.old 84 rfl
    conv at e84 => rhs; whnf
    have e85 := hFm.old 85 rfl
    conv at e85 => rhs; whnf
    have e86 := hFm.old 86 rfl
    conv at e86 => rhs; whnf
    have e87 := hFm.old 87 rfl
    conv at e87 => rhs; whnf
    have e88 := hFm.old 88 rfl
    conv at e88 => rhs; whnf
    have e89 := hFm.old 89 rfl
    conv at e89 => rhs; whnf
    have e90 := hFm.old 90 rfl
    conv at e90 => rhs; whnf
    have e91 := hFm.old 91 rfl
    conv at e91 => rhs; whnf
    have e92 := hFm.old 92 rfl
    conv at e92 => rhs; whnf
    have e93 := hFm.old 93 rfl
    conv at e93 => rhs; whnf
    have e94 := hFm.old 94 rfl
    conv at e94 => rhs; whnf
    have e95 := hFm.old 95 rfl
    conv at e95 => rhs; whnf
    have e96 := hFm.old 96 rfl
    conv at e96 => rhs; whnf
    have e97 := hFm.old 97 rfl
    conv at e97 => rhs; whnf
    have e98 := hFm.old 98 rfl
    conv at e98 => rhs; whnf
    have e99 := hFm.old 99 rfl
    conv at e99 => rhs; whnf
    have e100 := hFm.old 100 rfl
    conv at e100 => rhs; whnf
    have e101 := hFm.old 101 rfl
    conv at e101 => rhs; whnf
    have e102 := hFm.old 102 rfl
    conv at e102 => rhs; whnf
    have e103 := hFm.old 103 rfl
    conv at e103 => rhs; whnf
    have e104 := hFm.old 104 rfl
    conv at e104 => rhs; whnf
    have e105 := hFm.old 105 rfl
    conv at e105 => rhs; whnf
    have e106 := hFm.old 106 rfl
    conv at e106 => rhs; whnf
    have e107 := hFm.old 107 rfl
    conv at e107 => rhs; whnf
    have e108 := hFm.old 108 rfl
    conv at e108 => rhs; whnf
    have e109 := hFm.old 109 rfl
    conv at e109 => rhs; whnf
    have e110 := hFm.old 110 rfl
    conv at e110 => rhs; whnf
    have e111 := hFm.old 111 rfl
    conv at e111 => rhs; whnf
    have e112 := hFm.old 112 rfl
    conv at e112 => rhs; whnf
    have e113 := hFm.old 113 rfl
    conv at e113 => rhs; whnf
    have e114 := hFm.old 114 rfl
    conv at e114 => rhs; whnf
    have e115 := hFm.old 115 rfl
    conv at e115 => rhs; whnf
    have e116 := hFm.old 116 rfl
    conv at e116 => rhs; whnf
    have hsz := hFm.size
    have hdf := hFm.defers
    clear hd hFm
    obtain ⟨t, df⟩ := a
    simp only at hsz hdf
    subst hdf
    obtain ⟨x, hx⟩ : ∃ x : Nat → Value, ∀ i, t.getD i undef = x i := ⟨fun i => t.getD i undef, fun _ => rfl⟩
    have h10 := (hx 10).symm.trans e10
    have h0 := (hx 0).symm.trans e0
    have h1 := (hx 1).symm.trans e1
    have h2 := (hx 2).symm.trans e2
    have h3 := (hx 3).symm.trans e3
    have h4 := (hx 4).symm.trans e4
    have h5 := (hx 5).symm.trans e5
    have h6 := (hx 6).symm.trans e6
    have h7 := (hx 7).symm.trans e7
    have h8 := (hx 8).symm.trans e8
    have h9 := (hx 9).symm.trans e9
    have h11 := (hx 11).symm.trans e11
    have h12 := (hx 12).symm.trans e12
    have h13 := (hx 13).symm.trans e13
    have h14 := (hx 14).symm.trans e14
    have h15 := (hx 15).symm.trans e15
    have h16 := (hx 16).symm.trans e16
    have h17 := (hx 17).symm.trans e17
    have h18 := (hx 18).symm.trans e18
    have h19 := (hx 19).symm.trans e19
    have h20 := (hx 20).symm.trans e20
    have h21 := (hx 21).symm.trans e21
    have h22 := (hx 22).symm.trans e22
    have h23 := (hx 23).symm.trans e23
    have h24 := (hx 24).symm.trans e24
    have h25 := (hx 25).symm.trans e25
    have h26 := (hx 26).symm.trans e26
    have h27 := (hx 27).symm.trans e27
    have h28 := (hx 28).symm.trans e28
    have h29 := (hx 29).symm.trans e29
    have h30 := (hx 30).symm.trans e30
    have h31 := (hx 31).symm.trans e31
    have h32 := (hx 32).symm.trans e32
    have h33 := (hx 33).symm.trans e33
    have h34 := (hx 34).symm.trans e34
    have h35 := (hx 35).symm.trans e35
    have h36 := (hx 36).symm.trans e36
    have h37 := (hx 37).symm.trans e37
    have h38 := (hx 38).symm.trans e38
    have h39 := (hx 39).symm.trans e39
    have h40 := (hx 40).symm.trans e40
    have h41 := (hx 41).symm.trans e41
    have h42 := (hx 42).symm.trans e42
    have h43 := (hx 43).symm.trans e43
    have h44 := (hx 44).symm.trans e44
    have h45 := (hx 45).symm.trans e45
    have h46 := (hx 46).symm.trans e46
    have h47 := (hx 47).symm.trans e47
    have h48 := (hx 48).symm.trans e48
    have h49 := (hx 49).symm.trans e49
    have h50 := (hx 50).symm.trans e50
    have h51 := (hx 51).symm.trans e51
    have h52 := (hx 52).symm.trans e52
    have h53 := (hx 53).symm.trans e53
    have h54 := (hx 54).symm.trans e54
    have h55 := (hx 55).symm.trans e55
    have h56 := (hx 56).symm.trans e56
    have h57 := (hx 57).symm.trans e57
    have h58 := (hx 58).symm.trans e58
    have h59 := (hx 59).symm.trans e59
    have h60 := (hx 60).symm.trans e60
    have h61 := (hx 61).symm.trans e61
    have h62 := (hx 62).symm.trans e62
    have h63 := (hx 63).symm.trans e63
    have h64 := (hx 64).symm.trans e64
    have h65 := (hx 65).symm.trans e65
    have h66 := (hx 66).symm.trans e66
    have h67 := (hx 67).symm.trans e67
    have h68 := (hx 68).symm.trans e68
    have h69 := (hx 69).symm.trans e69
    have h70 := (hx 70).symm.trans e70
    have h71 := (hx 71).symm.trans e71
    have h72 := (hx 72).symm.trans e72
    have h73 := (hx 73).symm.trans e73
    have h74 := (hx 74).symm.trans e74
    have h75 := (hx 75).symm.trans e75
    have h76 := (hx 76).symm.trans e76
    have h77 := (hx 77).symm.trans e77
    have h78 := (hx 78).symm.trans e78
    have h79 := (hx 79).symm.trans e79
    have h80 := (hx 80).symm.trans e80
    have h81 := (hx 81).symm.trans e81
    have h82 := (hx 82).symm.trans e82
    have h83 := (hx 83).symm.trans e83
    have h84 := (hx 84).symm.trans e84
    have h85 := (hx 85).symm.trans e85
    have h86 := (hx 86).symm.trans e86
    have h87 := (hx 87).symm.trans e87
    have h88 := (hx 88).symm.trans e88
    have h89 := (hx 89).symm.trans e89
    have h90 := (hx 90).symm.trans e90
    have h91 := (hx 91).symm.trans e91
    have h92 := (hx 92).symm.trans e92
    have h93 := (hx 93).symm.trans e93
    have h94 := (hx 94).symm.trans e94
    have h95 := (hx 95).symm.trans e95
    have h96 := (hx 96).symm.trans e96
    have h97 := (hx 97).symm.trans e97
    have h98 := (hx 98).symm.trans e98
    have h99 := (hx 99).symm.trans e99
    have h100 := (hx 100).symm.trans e100
    have h101 := (hx 101).symm.trans e101
    have h102 := (hx 102).symm.trans e102
    have h103 := (hx 103).symm.trans e103
    have h104 := (hx 104).symm.trans e104
    have h105 := (hx 105).symm.trans e105
    have h106 := (hx 106).symm.trans e106
    have h107 := (hx 107).symm.trans e107
    have h108 := (hx 108).symm.trans e108
    have h109 := (hx 109).symm.trans e109
    have h110 := (hx 110).symm.trans e110
    have h111 := (hx 111).symm.trans e111
    have h112 := (hx 112).symm.trans e112
    have h113 := (hx 113).symm.trans e113
    have h114 := (hx 114).symm.trans e114
    have h115 := (hx 115).symm.trans e115
    have h116 := (hx 116).symm.trans e116
    have ht' : t = #[x 0, x 1, x 2, x 3, x 4, x 5, x 6, x 7, x 8, x 9, x 10, x 11, x 12, x 13, x 14, x 15, x 16, x 17, x 18, x 19, x 20, x 21, x 22, x 23, x 24, x 25, x 26, x 27, x 28, x 29, x 30, x 31, x 32, x 33, x 34, x 35, x 36, x 37, x 38, x 39, x 40, x 41, x 42, x 43, x 44, x 45, x 46, x 47, x 48, x 49, x 50, x 51, x 52, x 53, x 54, x 55, x 56, x 57, x 58, x 59, x 60, x 61, x 62, x 63, x 64, x 65, x 66, x 67, x 68, x 69, x 70, x 71, x 72, x 73, x 74, x 75, x 76, x 77, x 78, x 79, x 80, x 81, x 82, x 83, x 84, x 85, x 86, x 87, x 88, x 89, x 90, x 91, x 92, x 93, x 94, x 95, x 96, x 97, x 98, x 99, x 100, x 101, x 102, x 103, x 104, x 105, x 106, x 107, x 108, x 109, x 110, x 111, x 112, x 113, x 114, x 115, x 116, x 117, x 118, x 119, x 120, x 121, x 122, x 123] := frame_lit t 124 hsz x hx
    clear hx hsz hz e10 e0 e1 e2 e3 e4 e5 e6 e7 e8 e9 e11 e12 e13 e14 e15 e16 e17 e18 e19 e20 e21 e22 e23 e24 e25 e26 e27 e28 e29 e30 e31 e32 e33 e34 e35 e36 e37 e38 e39 e40 e41 e42 e43 e44 e45 e46 e47 e48 e49 e50 e51 e52 e53 e54 e55 e56 e57 e58 e59 e60 e61 e62 e63 e64 e65 e66 e67 e68 e69 e70 e71 e72 e73 e74 e75 e76 e77 e78 e79 e80 e81 e82 e83 e84 e85 e86 e87 e88 e89 e90 e91 e92 e93 e94 e95 e96 e97 e98 e99 e100 e101 e102 e103 e104 e105 e106 e107 e108 e109 e110 e111 e112 e113 e114 e115 e116
    subst ht'
    dsimp only
    rw [h10, h0, h1, h2, h3, h4, h5, h6, h7, h8, h9, h11, h12, h13, h14, h15, h16, h17, h18, h19, h20, h21, h22, h23, h24, h25, h26, h27, h28, h29, h30, h31, h32, h33, h34, h35, h36, h37, h38, h39, h40, h41, h42, h43, h44, h45, h46, h47, h48, h49, h50, h51, h52, h53, h54, h55, h56, h57, h58, h59, h60, h61, h62, h63, h64, h65, h66, h67, h68, h69, h70, h71, h72, h73, h74, h75, h76, h77, h78, h79, h80, h81, h82, h83, h84, h85, h86, h87, h88, h89, h90, h91, h92, h93, h94, h95, h96, h97, h98, h99, h100, h101, h102, h103, h104, h105, h106, h107, h108, h109, h110, h111, h112, h113, h114, h115, h116]
    clear h10 h0 h1 h2 h3 h4 h5 h6 h7 h8 h9 h11 h12 h13 h14 h15 h16 h17 h18 h19 h20 h21 h22 h23 h24 h25 h26 h27 h28 h29 h30 h31 h32 h33 h34 h35 h36 h37 h38 h39 h40 h41 h42 h43 h44 h45 h46 h47 h48 h49 h50 h51 h52 h53 h54 h55 h56 h57 h58 h59 h60 h61 h62 h63 h64 h65 h66 h67 h68 h69 h70 h71 h72 h73 h74 h75 h76 h77 h78 h79 h80 h81 h82 h83 h84 h85 h86 h87 h88 h89 h90 h91 h92 h93 h94 h95 h96 h97 h98 h99 h100 h101 h102 h103 h104 h105 h106 h107 h108 h109 h110 h111 h112 h113 h114 h115 h116
    have hb9 := from_drew hS
    replace hB := hB.trans (hb9.mono hB.size)
    go_wp2
    go_ret
    exact ⟨rfl, hB⟩
  · rw [hi] at HW
    clear hi
    go_wp2_with fail
    refine (HW.out _).mono ?_
    rintro e wl ⟨rfl, rfl⟩
    have qG := hG.at
    unfold frBox at qG
    have zG := hG.frozen
    by_cases h0 : g.E.length = 0
    · have z0 : decide (0 < g.E.length) = false := decide_eq_false (by omega)
      clear h0
      go_upto_region 27 with fail
      generalize w4 = wx at *
      clear qG zG
      obtain ⟨g2, ga2, gc2, hG, hrg⟩ : ∃ (g2 : Fr) (ga2 : Option Addr) (gc2 : Nat), Blk wx gb 29 (frBox g2 ga2 gc2) ∧ RowT wx ga2 g2.E := ⟨_, _, _, hG, hrg⟩
      refine region_slots [some 117, some 118, some 119, some 120, some 121, some 122, some 123, some 10] [none, none, none, none, none, none, none, none] 124 8 rfl (by kernel_rfl) (by kernel_rfl) rfl rfl ?_
      apply step_fix
      · intro a W Zs hS hFm hz hd
        have h11 := hFm.old 11 rfl
        conv at h11 => rhs; whnf
        replace h11 := ev_get hFm.size h11
        have hq := (hD.drew1.later hS).at
        unfold confBox at hq
        refine .inl ⟨wanted_none rfl _, fun K hK => ?_⟩
        have HK := Lib.hid hK
        clear hd hFm hK
        go_simp
        exact HK.out _ _ rfl (Below.refl _ _)
      simp only [List.nil_append, List.cons_append]
      apply step_fix
      · intro a W Zs hS hFm hz hd
        have h12 := hFm.old 12 rfl
        conv at h12 => rhs; whnf
        replace h12 := ev_get hFm.size h12
        have hq := (hG.drew1.later hS).at
        unfold frBox at hq
        refine .inl ⟨wanted_none rfl _, fun K hK => ?_⟩
        have HK := Lib.hid hK
        clear hd hFm hK
        go_simp
        exact HK.out _ _ rfl (Below.refl _ _)
      simp only [List.nil_append, List.cons_append]
      apply step_fix
      · intro a W Zs hS hFm hz hd
        have h117 := ev_get hFm.size (hd 0 117 rfl rfl)
        have h118 := ev_get hFm.size (hd 1 118 rfl rfl)
        refine .inl ⟨wanted_none rfl _, fun K hK => ?_⟩
        have HK := Lib.hid hK
        clear hd hFm hK
        go_simp
        refine (HK1.out _ hok g2 ga2 gc2 (hrg.drew1.later hS)).mono ?_
        rintro e W' ⟨rfl, hb⟩
        exact HK.out _ _ rfl hb
      simp only [List.nil_append, List.cons_append]
      apply step_fix
      · intro a W Zs hS hFm hz hd
        have h11 := hFm.old 11 rfl
        conv at h11 => rhs; whnf
        replace h11 := ev_get hFm.size h11
        have hq := (hD.drew1.later hS).at
        unfold confBox at hq
        refine .inl ⟨wanted_none rfl _, fun K hK => ?_⟩
        have HK := Lib.hid hK
        clear hd hFm hK
        go_simp
        exact HK.out _ _ rfl (Below.refl _ _)
      simp only [List.nil_append, List.cons_append]
      apply step_fix
      · intro a W Zs hS hFm hz hd
        have h12 := hFm.old 12 rfl
        conv at h12 => rhs; whnf
        replace h12 := ev_get hFm.size h12
        have hq := (hG.drew1.later hS).at
        unfold frBox at hq
        refine .inl ⟨wanted_none rfl _, fun K hK => ?_⟩
        have HK := Lib.hid hK
        clear hd hFm hK
        go_simp
        exact HK.out _ _ rfl (Below.refl _ _)
      simp only [List.nil_append, List.cons_append]
      apply step_fix
      · intro a W Zs hS hFm hz hd
        have h120 := ev_get hFm.size (hd 3 120 rfl rfl)
        have h121 := ev_get hFm.size (hd 4 121 rfl rfl)
        refine .inl ⟨wanted_none rfl _, fun K hK => ?_⟩
        have HK := Lib.hid hK
        clear hd hFm hK
        go_simp
        refine (HK2.out _ hok g2 ga2 gc2 (hrg.drew1.later hS)).mono ?_
        rintro e W' ⟨rfl, hb⟩
        exact HK.out _ _ rfl hb
      simp only [List.nil_append, List.cons_append]
      apply step_fix
      · intro a W Zs hS hFm hz hd
        have h119 := ev_get hFm.size (hd 2 119 rfl rfl)
        have h122 := ev_get hFm.size (hd 5 122 rfl rfl)
        refine .inl ⟨wanted_none rfl _, fun K hK => ?_⟩
        have HK := Lib.hid hK
        clear hd hFm hK
        go_simp
        exact HK.out _ _ rfl (Below.refl _ _)
      simp only [List.nil_append, List.cons_append]
      apply step_fix
      · intro a W Zs hS hFm hz hd
        have h123 := ev_get hFm.size (hd 6 123 rfl rfl)
        refine .inl ⟨wanted_none rfl _, fun K hK => ?_⟩
        have HK := Lib.hid hK
        clear hd hFm hK
        go_simp
        exact HK.out _ _ rfl (Below.refl _ _)
      simp only [List.nil_append, List.cons_append]
      intro a w9 Zs hS hFm hz hd
      have e10 := hd 7 10 (by decide) rfl
      have e0 := hFm.old 0 rfl
      conv at e0 => rhs; whnf
      have e1 := hFm.old 1 rfl
      conv at e1 => rhs; whnf
      have e2 := hFm.old 2 rfl
      conv at e2 => rhs; whnf
      have e3 := hFm.old 3 rfl
      conv at e3 => rhs; whnf
      have e4 := hFm.old 4 rfl
      conv at e4 => rhs; whnf
      have e5 := hFm.old 5 rfl
      conv at e5 => rhs; whnf
      have e6 := hFm.old 6 rfl
      conv at e6 => rhs; whnf
      have e7 := hFm.old 7 rfl
      conv at e7 => rhs; whnf
      have e8 := hFm.old 8 rfl
      conv at e8 => rhs; whnf
      have e9 := hFm.old 9 rfl
      conv at e9 => rhs; whnf
      have e11 := hFm.old 11 rfl
      conv at e11 => rhs; whnf
      have e12 := hFm.old 12 rfl
      conv at e12 => rhs; whnf
      have e13 := hFm.old 13 rfl
      conv at e13 => rhs; whnf
      have e14 := hFm.old 14 rfl
      conv at e14 => rhs; whnf
      have e15 := hFm.old 15 rfl
      conv at e15 => rhs; whnf
      have e16 := hFm.old 16 rfl
      conv at e16 => rhs; whnf
      have e17 := hFm.old 17 rfl
      conv at e17 => rhs; whnf
      have e18 := hFm.old 18 rfl
      conv at e18 => rhs; whnf
      have e19 := hFm.old 19 rfl
      conv at e19 => rhs; whnf
      have e20 := hFm.old 20 rfl
      conv at e20 => rhs; whnf
      have e21 := hFm.old 21 rfl
      conv at e21 => rhs; whnf
      have e22 := hFm.old 22 rfl
      conv at e22 => rhs; whnf
      have e23 := hFm.old 23 rfl
      conv at e23 => rhs; whnf
      have e24 := hFm.old 24 rfl
      conv at e24 => rhs; whnf
      have e25 := hFm.old 25 rfl
      conv at e25 => rhs; whnf
      have e26 := hFm.old 26 rfl
      conv at e26 => rhs; whnf
      have e27 := hFm.old 27 rfl
      conv at e27 => rhs; whnf
      have e28 := hFm.old 28 rfl
      conv at e28 => rhs; whnf
      have e29 := hFm.old 29 rfl
      conv at e29 => rhs; whnf
      have e30 := hFm.old 30 rfl
      conv at e30 => rhs; whnf
      have e31 := hFm.old 31 rfl
      conv at e31 => rhs; whnf
      have e32 := hFm.old 32 rfl
      conv at e32 => rhs; whnf
      have e33 := hFm.old 33 rfl
      conv at e33 => rhs; whnf
      have e34 := hFm.old 34 rfl
      conv at e34 => rhs; whnf
      have e35 := hFm.old 35 rfl
      conv at e35 => rhs; whnf
      have e36 := hFm.old 36 rfl
      conv at e36 => rhs; whnf
      have e37 := hFm.old 37 rfl
      conv at e37 => rhs; whnf
      have e38 := hFm.old 38 rfl
      conv at e38 => rhs; whnf
      have e39 := hFm.old 39 rfl
      conv at e39 => rhs; whnf
      have e40 := hFm.old 40 rfl
      conv at e40 => rhs; whnf
      have e41 := hFm.old 41 rfl
      conv at e41 => rhs; whnf
      have e42 := hFm.old 42 rfl
      conv at e42 => rhs; whnf
      have e43 := hFm.old 43 rfl
      conv at e43 => rhs; whnf
      have e44 := hFm.old 44 rfl
      conv at e44 => rhs; whnf
      have e45 := hFm.old 45 rfl
      conv at e45 => rhs; whnf
      have e46 := hFm.old 46 rfl
      conv at e46 => rhs; whnf
      have e47 := hFm.old 47 rfl
      conv at e47 => rhs; whnf
      have e48 := hFm.old 48 rfl
      conv at e48 => rhs; whnf
      have e49 := hFm.old 49 rfl
      conv at e49 => rhs; whnf
      have e50 := hFm.old 50 rfl
      conv at e50 => rhs; whnf
      have e51 := hFm.old 51 rfl
      conv at e51 => rhs; whnf
      have e52 := hFm.old 52 rfl
      conv at e52 => rhs; whnf
      have e53 := hFm.old 53 rfl
      conv at e53 => rhs; whnf
      have e54 := hFm.old 54 rfl
      conv at e54 => rhs; whnf
      have e55 := hFm.old 55 rfl
      conv at e55 => rhs; whnf
      have e56 := hFm.old 56 rfl
      conv at e56 => rhs; whnf
      have e57 := hFm.old 57 rfl
      conv at e57 => rhs; whnf
      have e58 := hFm.old 58 rfl
      conv at e58 => rhs; whnf
      have e59 := hFm.old 59 rfl
      conv at e59 => rhs; whnf
      have e60 := hFm.old 60 rfl
      conv at e60 => rhs; whnf
      have e61 := hFm.old 61 rfl
      conv at e61 => rhs; whnf
      have e62 := hFm.old 62 rfl
      conv at e62 => rhs; whnf
      have e63 := hFm.old 63 rfl
      conv at e63 => rhs; whnf
      have e64 := hFm.old 64 rfl
      conv at e64 => rhs; whnf
      have e65 := hFm.old 65 rfl
      conv at e65 => rhs; whnf
      have e66 := hFm.old 66 rfl
      conv at e66 => rhs; whnf
      have e67 := hFm.old 67 rfl
      conv at e67 => rhs; whnf
      have e68 := hFm.old 68 rfl
      conv at e68 => rhs; whnf
      have e69 := hFm.old 69 rfl
      conv at e69 => rhs; whnf
      have e70 := hFm.old 70 rfl
      conv at e70 => rhs; whnf
      have e71 := hFm.old 71 rfl
      conv at e71 => rhs; whnf
      have e72 := hFm.old 72 rfl
      conv at e72 => rhs; whnf
      have e73 := hFm.old 73 rfl
      conv at e73 => rhs; whnf
      have e74 := hFm.old 74 rfl
      conv at e74 => rhs; whnf
      have e75 := hFm.old 75 rfl
      conv at e75 => rhs; whnf
      have e76 := hFm.old 76 rfl
      conv at e76 => rhs; whnf
      have e77 := hFm.old 77 rfl
      conv at e77 => rhs; whnf
      have e78 := hFm.old 78 rfl
      conv at e78 => rhs; whnf
      have e79 := hFm.old 79 rfl
      conv at e79 => rhs; whnf
      have e80 := hFm.old 80 rfl
      conv at e80 => rhs; whnf
      have e81 := hFm.old 81 rfl
      conv at e81 => rhs; whnf
      have e82 := hFm.old 82 rfl
      conv at e82 => rhs; whnf
      have e83 := hFm.old 83 rfl
      conv at e83 => rhs; whnf
      have e84 := hFm.old 84 rfl
      conv at e84 => rhs; whnf
      have e85 := hFm.old 85 rfl
      conv at e85 => rhs; whnf
      have e86 := hFm.old 86 rfl
      conv at e86 => rhs; whnf
      have e87 := hFm.old 87 rfl
      conv at e87 => rhs; whnf
      have e88 := hFm.old 88 rfl
      conv at e88 => rhs; whnf
      have e89 := hFm.old 89 rfl
      conv at e89 => rhs; whnf
      have e90 := hFm.old 90 rfl
      conv at e90 => rhs; whnf
      have e91 := hFm.old 91 rfl
      conv at e91 => rhs; whnf
      have e92 := hFm.old 92 rfl
      conv at e92 => rhs; whnf
      have e93 := hFm.old 93 rfl
      conv at e93 => rhs; whnf
      have e94 := hFm.old 94 rfl
      conv at e94 => rhs; whnf
      have e95 := hFm.old 95 rfl
      conv at e95 => rhs; whnf
      have e96 := hFm.old 96 rfl
      conv at e96 => rhs; whnf
      have e97 := hFm.old 97 rfl
      conv at e97 => rhs; whnf
      have e98 := hFm.old 98 rfl
      conv at e98 => rhs; whnf
      have e99 := hFm.old 99 rfl
      conv at e99 => rhs; whnf
      have e100 := hFm.old 100 rfl
      conv at e100 => rhs; whnf
      have e101 := hFm.old 101 rfl
      conv at e101 => rhs; whnf
      have e102 := hFm.old 102 rfl
      conv at e102 => rhs; whnf
      have e103 := hFm.old 103 rfl
      conv at e103 => rhs; whnf
      have e104 := hFm.old 104 rfl
      conv at e104 => rhs; whnf
      have e105 := hFm.old 105 rfl
      conv at e105 => rhs; whnf
      have e106 := hFm.old 106 rfl
      conv at e106 => rhs; whnf
      have e107 := hFm.old 107 rfl
      conv at e107 => rhs; whnf
      have e108 := hFm.old 108 rfl
      conv at e108 => rhs; whnf
      have e109 := hFm.old 109 rfl
      conv at e109 => rhs; whnf
      have e110 := hFm.old 110 rfl
      conv at e110 => rhs; whnf
      have e111 := hFm.old 111 rfl
      conv at e111 => rhs; whnf
      have e112 := hFm.old 112 rfl
      conv at e112 => rhs; whnf
      have e113 := hFm.old 113 rfl
      conv at e113 => rhs; whnf
      have e114 := hFm.old 114 rfl
      conv at e114 => rhs; whnf
      have e115 := hFm.old 115 rfl
      conv at e115 => rhs; whnf
      have e116 := hFm.old 116 rfl
      conv at e116 => rhs; whnf
      have hsz := hFm.size
      have hdf := hFm.defers
      clear hd hFm
      obtain ⟨t, df⟩ := a
      simp only at hsz hdf
      subst hdf
      obtain ⟨x, hx⟩ : ∃ x : Nat → Value, ∀ i, t.getD i undef = x i := ⟨fun i => t.getD i undef, fun _ => rfl⟩
      have h10 := (hx 10).symm.trans e10
      have h0 := (hx 0).symm.trans e0
      have h1 := (hx 1).symm.trans e1
      have h2 := (hx 2).symm.trans e2
      have h3 := (hx 3).symm.trans e3
      have h4 := (hx 4).symm.trans e4
      have h5 := (hx 5).symm.trans e5
      have h6 := (hx 6).symm.trans e6
      have h7 := (hx 7).symm.trans e7
      have h8 := (hx 8).symm.trans e8
      have h9 := (hx 9).symm.trans e9
      have h11 := (hx 11).symm.trans e11
      have h12 := (hx 12).symm.trans e12
      have h13 := (hx 13).symm.trans e13
      have h14 := (hx 14).symm.trans e14
      have h15 := (hx 15).symm.trans e15
      have h16 := (hx 16).symm.trans e16
      have h17 := (hx 17).symm.trans e17
      have h18 := (hx 18).symm.trans e18
      have h19 := (hx 19).symm.trans e19
      have h20 := (hx 20).symm.trans e20
      have h21 := (hx 21).symm.trans e21
      have h22 := (hx 22).symm.trans e22
      have h23 := (hx 23).symm.trans e23
      have h24 := (hx 24).symm.trans e24
      have h25 := (hx 25).symm.trans e25
      have h26 := (hx 26).symm.trans e26
      have h27 := (hx 27).symm.trans e27
      have h28 := (hx 28).symm.trans e28
      have h29 := (hx 29).symm.trans e29
      have h30 := (hx 30).symm.trans e30
      have h31 := (hx 31).symm.trans e31
      have h32 := (hx 32).symm.trans e32
      have h33 := (hx 33).symm.trans e33
      have h34 := (hx 34).symm.trans e34
      have h35 := (hx 35).symm.trans e35
      have h36 := (hx 36).symm.trans e36
      have h37 := (hx 37).symm.trans e37
      have h38 := (hx 38).symm.trans e38
      have h39 := (hx 39).symm.trans e39
      have h40 := (hx 40).symm.trans e40
      have h41 := (hx 41).symm.trans e41
      have h42 := (hx 42).symm.trans e42
      have h43 := (hx 43).symm.trans e43
      have h44 := (hx 44).symm.trans e44
      have h45 := (hx 45).symm.trans e45
      have h46 := (hx 46).symm.trans e46
      have h47 := (hx 47).symm.trans e47
      have h48 := (hx 48).symm.trans e48
      have h49 := (hx 49).symm.trans e49
      have h50 := (hx 50).symm.trans e50
      have h51 := (hx 51).symm.trans e51
      have h52 := (hx 52).symm.trans e52
      have h53 := (hx 53).symm.trans e53
      have h54 := (hx 54).symm.trans e54
      have h55 := (hx 55).symm.trans e55
      have h56 := (hx 56).symm.trans e56
      have h57 := (hx 57).symm.trans e57
      have h58 := (hx 58).symm.trans e58
      have h59 := (hx 59).symm.trans e59
      have h60 := (hx 60).symm.trans e60
      have h61 := (hx 61).symm.trans e61
      have h62 := (hx 62).symm.trans e62
      have h63 := (hx 63).symm.trans e63
      have h64 := (hx 64).symm.trans e64
      have h65 := (hx 65).symm.trans e65
      have h66 := (hx 66).symm.trans e66
      have h67 := (hx 67).symm.trans e67
      have h68 := (hx 68).symm.trans e68
      have h69 := (hx 69).symm.trans e69
      have h70 := (hx 70).symm.trans e70
      have h71 := (hx 71).symm.trans e71
      have h72 := (hx 72).symm.trans e72
      have h73 := (hx 73).symm.trans e73
      have h74 := (hx 74).symm.trans e74
      have h75 := (hx 75).symm.trans e75
      have h76 := (hx 76).symm.trans e76
      have h77 := (hx 77).symm.trans e77
      have h78 := (hx 78).symm.trans e78
      have h79 := (hx 79).symm.trans e79
      have h80 := (hx 80).symm.trans e80
      have h81 := (hx 81).symm.trans e81
      have h82 := (hx 82).symm.trans e82
      have h83 := (hx 83).symm.trans e83
      have h84 := (hx 84).symm.trans e84
      have h85 := (hx 85).symm.trans e85
      have h86 := (hx 86).symm.trans e86
      have h87 := (hx 87).symm.trans e87
      have h88 := (hx 88).symm.trans e88
      have h89 := (hx 89).symm.trans e89
      have h90 := (hx 90).symm.trans e90
      have h91 := (hx 91).symm.trans e91
      have h92 := (hx 92).symm.trans e92
      have h93 := (hx 93).symm.trans e93
      have h94 := (hx 94).symm.trans e94
      have h95 := (hx 95).symm.trans e95
      have h96 := (hx 96).symm.trans e96
      have h97 := (hx 97).symm.trans e97
      have h98 := (hx 98).symm.trans e98
      have h99 := (hx 99).symm.trans e99
      have h100 := (hx 100).symm.trans e100
      have h101 := (hx 101).symm.trans e101
      have h102 := (hx 102).symm.trans e102
      have h103 := (hx 103).symm.trans e103
      have h104 := (hx 104).symm.trans e104
      have h105 := (hx 105).symm.trans e105
      have h106 := (hx 106).symm.trans e106
      have h107 := (hx 107).symm.trans e107
      have h108 := (hx 108).symm.trans e108
      have h109 := (hx 109).symm.trans e109
      have h110 := (hx 110).symm.trans e110
      have h111 := (hx 111).symm.trans e111
      have h112 := (hx 112).symm.trans e112
      have h113 := (hx 113).symm.trans e113
      have h114 := (hx 114).symm.trans e114
      have h115 := (hx 115).symm.trans e115
      have h116 := (hx 116).symm.trans e116
      have ht' : t = #[x 0, x 1, x 2, x 3, x 4, x 5, x 6, x 7, x 8, x 9, x 10, x 11, x 12, x 13, x 14, x 15, x 16, x 17, x 18, x 19, x 20, x 21, x 22, x 23, x 24, x 25, x 26, x 27, x 28, x 29, x 30, x 31, x 32, x 33, x 34, x 35, x 36, x 37, x 38, x 39, x 40, x 41, x 42, x 43, x 44, x 45, x 46, x 47, x 48, x 49, x 50, x 51, x 52, x 53, x 54, x 55, x 56, x 57, x 58, x 59, x 60, x 61, x 62, x 63, x 64, x 65, x 66, x 67, x 68, x 69, x 70, x 71, x 72, x 73, x 74, x 75, x 76, x 77, x 78, x 79, x 80, x 81, x 82, x 83, x 84, x 85, x 86, x 87, x 88, x 89, x 90, x 91, x 92, x 93, x 94, x 95, x 96, x 97, x 98, x 99, x 100, x 101, x 102, x 103, x 104, x 105, x 106, x 107, x 108, x 109, x 110, x 111, x 112, x 113, x 114, x 115, x 116, x 117, x 118, x 119, x 120, x 121, x 122, x 123] := frame_lit t 124 hsz x hx
      clear hx hsz hz e10 e0 e1 e2 e3 e4 e5 e6 e7 e8 e9 e11 e12 e13 e14 e15 e16 e17 e18 e19 e20 e21 e22 e23 e24 e25 e26 e27 e28 e29 e30 e31 e32 e33 e34 e35 e36 e37 e38 e39 e40 e41 e42 e43 e44 e45 e46 e47 e48 e49 e50 e51 e52 e53 e54 e55 e56 e57 e58 e59 e60 e61 e62 e63 e64 e65 e66 e67 e68 e69 e70 e71 e72 e73 e74 e75 e76 e77 e78 e79 e80 e81 e82 e83 e84 e85 e86 e87 e88 e89 e90 e91 e92 e93 e94 e95 e96 e97 e98 e99 e100 e101 e102 e103 e104 e105 e106 e107 e108 e109 e110 e111 e112 e113 e114 e115 e116
      subst ht'
      dsimp only
      rw [h10, h0, h1, h2, h3, h4, h5, h6, h7, h8, h9, h11, h12, h13, h14, h15, h16, h17, h18, h19, h20, h21, h22, h23, h24, h25, h26, h27, h28, h29, h30, h31, h32, h33, h34, h35, h36, h37, h38, h39, h40, h41, h42, h43, h44, h45, h46, h47, h48, h49, h50, h51, h52, h53, h54, h55, h56, h57, h58, h59, h60, h61, h62, h63, h64, h65, h66, h67, h68, h69, h70, h71, h72, h73, h74, h75, h76, h77, h78, h79, h80, h81, h82, h83, h84, h85, h86, h87, h88, h89, h90, h91, h92, h93, h94, h95, h96, h97, h98, h99, h100, h101, h102, h103, h104, h105, h106, h107, h108, h109, h110, h111, h112, h113, h114, h115, h116]
      clear h10 h0 h1 h2 h3 h4 h5 h6 h7 h8 h9 h11 h12 h13 h14 h15 h16 h17 h18 h19 h20 h21 h22 h23 h24 h25 h26 h27 h28 h29 h30 h31 h32 h33 h34 h35 h36 h37 h38 h39 h40 h41 h42 h43 h44 h45 h46 h47 h48 h49 h50 h51 h52 h53 h54 h55 h56 h57 h58 h59 h60 h61 h62 h63 h64 h65 h66 h67 h68 h69 h70 h71 h72 h73 h74 h75 h76 h77 h78 h79 h80 h81 h82 h83 h84 h85 h86 h87 h88 h89 h90 h91 h92 h93 h94 h95 h96 h97 h98 h99 h100 h101 h102 h103 h104 h105 h106 h107 h108 h109 h110 h111 h112 h113 h114 h115 h116
      have hb9 := from_drew hS
      replace hB := hB.trans (hb9.mono hB.size)
      go_wp2
      go_ret
      exact ⟨rfl, hB⟩
    · have z0 : decide (0 < g.E.length) = true := decide_eq_true (by omega)
      have hne : g.E ≠ [] := fun e => h0 (by rw [e]; rfl)
      have HN := Lib.hid (fun W => within5_any n (g.E.length : Int) W (by omega) (by omega))
      have m0 : 0 ≤ n % (g.E.length : Int) := Int.emod_nonneg _ (by omega)
      have m1 : n % (g.E.length : Int) < (g.E.length : Int) := Int.emod_lt_of_pos _ (by omega)
      obtain ⟨j, hj⟩ : ∃ j : Nat, n % (g.E.length : Int) = (j : Int) := ⟨(n % (g.E.length : Int)).toNat, by omega⟩
      rw [hj] at HN m0 m1
      clear hj h0
      have hjl : j < g.E.length := by omega
      obtain ⟨b1, o1, rfl, hb1, hc1, hc2, _, _⟩ := hrg.get j hjl
      have zR := hfz4 ⟨b1, o1, none⟩ rfl hne
      have hfr := hfresh ⟨b1, o1, none⟩ rfl
      have hbg : b1 ≠ gb := by
        rcases hgne with h | h
        · exact absurd h hne
        · exact h ⟨b1, o1, none⟩ rfl
      clear hne
      go_upto_region 24 with fail
      clear qG zG
      refine region_tail [some 104, some 105, some 106, some 107, some 108, some 109, some 110, some 111, some 112, some 113, none] [none, none, none, none, none, none, none, none, none, none, none] 124 10 (by kernel_rfl) (by kernel_rfl) rfl rfl ?_
      simp only [List.take_succ_cons, List.take_zero, List.drop_succ_cons, List.drop_zero]
      apply step_fix
      · intro a W Zs hS hFm hz hd
        have h12 := hFm.old 12 rfl
        conv at h12 => rhs; whnf
        replace h12 := ev_get hFm.size h12
        refine .inl ⟨wanted_none rfl _, fun K hK => ?_⟩
        have HK := Lib.hid hK
        clear hd hFm hK
        go_simp
        exact HK.out _ _ rfl (Below.refl _ _)
      simp only [List.nil_append, List.cons_append]
      apply step_fix
      · intro a W Zs hS hFm hz hd
        have h104 := ev_get hFm.size (hd 0 104 rfl rfl)
        have hq := (hG.drew1.later hS).at
        unfold frBox at hq
        refine .inl ⟨wanted_none rfl _, fun K hK => ?_⟩
        have HK := Lib.hid hK
        clear hd hFm hK
        go_simp
        exact HK.out _ _ rfl (Below.refl _ _)
      simp only [List.nil_append, List.cons_append]
      apply step_fix
      · intro a W Zs hS hFm hz hd
        have h4 := hFm.old 4 rfl
        conv at h4 => rhs; whnf
        replace h4 := ev_get hFm.size h4
        refine .inl ⟨wanted_none rfl _, fun K hK => ?_⟩
        have HK := Lib.hid hK
        clear hd hFm hK
        go_simp
        exact HK.out _ _ rfl (Below.refl _ _)
      simp only [List.nil_append, List.cons_append]
      apply step_fix
      · intro a W Zs hS hFm hz hd
        have h12 := hFm.old 12 rfl
        conv at h12 => rhs; whnf
        replace h12 := ev_get hFm.size h12
        refine .inl ⟨wanted_none rfl _, fun K hK => ?_⟩
        have HK := Lib.hid hK
        clear hd hFm hK
        go_simp
        exact HK.out _ _ rfl (Below.refl _ _)
      simp only [List.nil_append, List.cons_append]
      apply step_fix
      · intro a W Zs hS hFm hz hd
        have h107 := ev_get hFm.size (hd 3 107 rfl rfl)
        have hq := (hG.drew1.later hS).at
        unfold frBox at hq
        refine .inl ⟨wanted_none rfl _, fun K hK => ?_⟩
        have HK := Lib.hid hK
        clear hd hFm hK
        go_simp
        exact HK.out _ _ rfl (Below.refl _ _)
      simp only [List.nil_append, List.cons_append]
      apply step_fix
      · intro a W Zs hS hFm hz hd
        have h108 := ev_get hFm.size (hd 4 108 rfl rfl)
        refine .inl ⟨wanted_none rfl _, fun K hK => ?_⟩
        have HK := Lib.hid hK
        clear hd hFm hK
        go_simp
        exact HK.out _ _ rfl (Below.refl _ _)
      simp only [List.nil_append, List.cons_append]
      apply step_fix
      · intro a W Zs hS hFm hz hd
        have h106 := ev_get hFm.size (hd 2 106 rfl rfl)
        have h109 := ev_get hFm.size (hd 5 109 rfl rfl)
        refine .inl ⟨wanted_none rfl _, fun K hK => ?_⟩
        have HK := Lib.hid hK
        clear hd hFm hK
        go_simp
        refine (HN.out _).mono ?_
        rintro e W' ⟨rfl, rfl⟩
        exact HK.out _ _ rfl (Below.refl _ _)
      simp only [List.nil_append, List.cons_append]
      apply step_fix
      · intro a W Zs hS hFm hz hd
        have h6 := hFm.old 6 rfl
        conv at h6 => rhs; whnf
        replace h6 := ev_get hFm.size h6
        refine .inl ⟨wanted_none rfl _, fun K hK => ?_⟩
        have HK := Lib.hid hK
        clear hd hFm hK
        go_simp
        exact HK.out _ _ rfl (Below.refl _ _)
      simp only [List.nil_append, List.cons_append]
      apply step_fix
      · intro a W Zs hS hFm hz hd
        have h111 := ev_get hFm.size (hd 7 111 rfl rfl)
        have hq := (k_f.drew1.later hS).at
        unfold frBox at hq
        refine .inl ⟨wanted_none rfl _, fun K hK => ?_⟩
        have HK := Lib.hid hK
        clear hd hFm hK
        go_simp
        exact HK.out _ _ rfl (Below.refl _ _)
      simp only [List.nil_append, List.cons_append]
      apply step_fix
      · intro a W Zs hS hFm hz hd
        have h105 := ev_get hFm.size (hd 1 105 rfl rfl)
        have h110 := ev_get hFm.size (hd 6 110 rfl rfl)
        refine .inl ⟨wanted_none rfl _, fun K hK => ?_⟩
        have HK := Lib.hid hK
        clear hd hFm hK
        go_simp
        exact HK.out _ _ rfl (Below.refl _ _)
      simp only [List.nil_append, List.cons_append]
      intro a w5 Zs hS hFm hz hd
      have e112 := hd 8 112 (by decide) rfl
      have e113 := hd 9 113 (by decide) rfl
      have e0 := hFm.old 0 rfl
      conv at e0 => rhs; whnf
      have e1 := hFm.old 1 rfl
      conv at e1 => rhs; whnf
      have e2 := hFm.old 2 rfl
      conv at e2 => rhs; whnf
      have e3 := hFm.old 3 rfl
      conv at e3 => rhs; whnf
      have e4 := hFm.old 4 rfl
      conv at e4 => rhs; whnf
      have e5 := hFm.old 5 rfl
      conv at e5 => rhs; whnf
      have e6 := hFm.old 6 rfl
      conv at e6 => rhs; whnf
      have e7 := hFm.old 7 rfl
      conv at e7 => rhs; whnf
      have e8 := hFm.old 8 rfl
      conv at e8 => rhs; whnf
      have e9 := hFm.old 9 rfl
      conv at e9 => rhs; whnf
      have e10 := hFm.old 10 rfl
      conv at e10 => rhs; whnf
      have e11 := hFm.old 11 rfl
      conv at e11 => rhs; whnf
      have e12 := hFm.old 12 rfl
      conv at e12 => rhs; whnf
      have e13 := hFm.old 13 rfl
      conv at e13 => rhs; whnf
      have e14 := hFm.old 14 rfl
      conv at e14 => rhs; whnf
      have e15 := hFm.old 15 rfl
      conv at e15 => rhs; whnf
      have e16 := hFm.old 16 rfl
      conv at e16 => rhs; whnf
      have e17 := hFm.old 17 rfl
      conv at e17 => rhs; whnf
      have e18 := hFm.old 18 rfl
      conv at e18 => rhs; whnf
      have e19 := hFm.old 19 rfl
      conv at e19 => rhs; whnf
      have e20 := hFm.old 20 rfl
      conv at e20 => rhs; whnf
      have e21 := hFm.old 21 rfl
      conv at e21 => rhs; whnf
      have e22 := hFm.old 22 rfl
      conv at e22 => rhs; whnf
      have e23 := hFm.old 23 rfl
      conv at e23 => rhs; whnf
      have e24 := hFm.old 24 rfl
      conv at e24 => rhs; whnf
      have e25 := hFm.old 25 rfl
      conv at e25 => rhs; whnf
      have e26 := hFm.old 26 rfl
      conv at e26 => rhs; whnf
      have e27 := hFm.old 27 rfl
      conv at e27 => rhs; whnf
      have e28 := hFm.old 28 rfl
      conv at e28 => rhs; whnf
      have e29 := hFm.old 29 rfl
      conv at e29 => rhs; whnf
      have e30 := hFm.old 30 rfl
      conv at e30 => rhs; whnf
      have e31 := hFm.old 31 rfl
      conv at e31 => rhs; whnf
      have e32 := hFm.old 32 rfl
      conv at e32 => rhs; whnf
      have e33 := hFm.old 33 rfl
      conv at e33 => rhs; whnf
      have e34 := hFm.old 34 rfl
      conv at e34 => rhs; whnf
      have e35 := hFm.old 35 rfl
      conv at e35 => rhs; whnf
      have e36 := hFm.old 36 rfl
      conv at e36 => rhs; whnf
      have e37 := hFm.old 37 rfl
      conv at e37 => rhs; whnf
      have e38 := hFm.old 38 rfl
      conv at e38 => rhs; whnf
      have e39 := hFm.old 39 rfl
      conv at e39 => rhs; whnf
      have e40 := hFm.old 40 rfl
      conv at e40 => rhs; whnf
      have e41 := hFm.old 41 rfl
      conv at e41 => rhs; whnf
      have e42 := hFm.old 42 rfl
      conv at e42 => rhs; whnf
      have e43 := hFm.old 43 rfl
      conv at e43 => rhs; whnf
      have e44 := hFm.old 44 rfl
      conv at e44 => rhs; whnf
      have e45 := hFm.old 45 rfl
      conv at e45 => rhs; whnf
      have e46 := hFm.old 46 rfl
      conv at e46 => rhs; whnf
      have e47 := hFm.old 47 rfl
      conv at e47 => rhs; whnf
      have e48 := hFm.old 48 rfl
      conv at e48 => rhs; whnf
      have e49 := hFm.old 49 rfl
      conv at e49 => rhs; whnf
      have e50 := hFm.old 50 rfl
      conv at e50 => rhs; whnf
      have e51 := hFm.old 51 rfl
      conv at e51 => rhs; whnf
      have e52 := hFm.old 52 rfl
      conv at e52 => rhs; whnf
      have e53 := hFm.old 53 rfl
      conv at e53 => rhs; whnf
      have e54 := hFm.old 54 rfl
      conv at e54 => rhs; whnf
      have e55 := hFm.old 55 rfl
      conv at e55 => rhs; whnf
      have e56 := hFm.old 56 rfl
      conv at e56 => rhs; whnf
      have e57 := hFm.old 57 rfl
      conv at e57 => rhs; whnf
      have e58 := hFm.old 58 rfl
      conv at e58 => rhs; whnf
      have e59 := hFm.old 59 rfl
      conv at e59 => rhs; whnf
      have e60 := hFm.old 60 rfl
      conv at e60 => rhs; whnf
      have e61 := hFm.old 61 rfl
      conv at e61 => rhs; whnf
      have e62 := hFm.old 62 rfl
      conv at e62 => rhs; whnf
      have e63 := hFm.old 63 rfl
      conv at e63 => rhs; whnf
      have e64 := hFm.old 64 rfl
      conv at e64 => rhs; whnf
      have e65 := hFm.old 65 rfl
      conv at e65 => rhs; whnf
      have e66 := hFm.old 66 rfl
      conv at e66 => rhs; whnf
      have e67 := hFm.old 67 rfl
      conv at e67 => rhs; whnf
      have e68 := hFm.old 68 rfl
      conv at e68 => rhs; whnf
      have e69 := hFm.old 69 rfl
      conv at e69 => rhs; whnf
      have e70 := hFm.old 70 rfl
      conv at e70 => rhs; whnf
      have e71 := hFm.old 71 rfl
      conv at e71 => rhs; whnf
      have e72 := hFm.old 72 rfl
      conv at e72 => rhs; whnf
      have e73 := hFm.old 73 rfl
      conv at e73 => rhs; whnf
      have e74 := hFm.old 74 rfl
      conv at e74 => rhs; whnf
      have e75 := hFm.old 75 rfl
      conv at e75 => rhs; whnf
      have e76 := hFm.old 76 rfl
      conv at e76 => rhs; whnf
      have e77 := hFm.old 77 rfl
      conv at e77 => rhs; whnf
      have e78 := hFm.old 78 rfl
      conv at e78 => rhs; whnf
      have e79 := hFm.old 79 rfl
      conv at e79 => rhs; whnf
      have e80 := hFm.old 80 rfl
      conv at e80 => rhs; whnf
      have e81 := hFm.old 81 rfl
      conv at e81 => rhs; whnf
      have e82 := hFm.old 82 rfl
      conv at e82 => rhs; whnf
      have e83 := hFm.old 83 rfl
      conv at e83 => rhs; whnf
      have e84 := hFm.old 84 rfl
      conv at e84 => rhs; whnf
      have e85 := hFm.old 85 rfl
      conv at e85 => rhs; whnf
      have e86 := hFm.old 86 rfl
      conv at e86 => rhs; whnf
      have e87 := hFm.old 87 rfl
      conv at e87 => rhs; whnf
      have e88 := hFm.old 88 rfl
      conv at e88 => rhs; whnf
      have e89 := hFm.old 89 rfl
      conv at e89 => rhs; whnf
      have e90 := hFm.old 90 rfl
      conv at e90 => rhs; whnf
      have e91 := hFm.old 91 rfl
      conv at e91 => rhs; whnf
      have e92 := hFm.old 92 rfl
      conv at e92 => rhs; whnf
      have e93 := hFm.old 93 rfl
      conv at e93 => rhs; whnf
      have e94 := hFm.old 94 rfl
      conv at e94 => rhs; whnf
      have e95 := hFm.old 95 rfl
      conv at e95 => rhs; whnf
      have e96 := hFm.old 96 rfl
      conv at e96 => rhs; whnf
      have e97 := hFm.old 97 rfl
      conv at e97 => rhs; whnf
      have e98 := hFm.old 98 rfl
      conv at e98 => rhs; whnf
      have e99 := hFm.old 99 rfl
      conv at e99 => rhs; whnf
      have e100 := hFm.old 100 rfl
      conv at e100 => rhs; whnf
      have e101 := hFm.old 101 rfl
      conv at e101 => rhs; whnf
      have e102 := hFm.old 102 rfl
      conv at e102 => rhs; whnf
      have e103 := hFm.old 103 rfl
      conv at e103 => rhs; whnf
      have e114 := hFm.old 114 rfl
      conv at e114 => rhs; whnf
      have e115 := hFm.old 115 rfl
      conv at e115 => rhs; whnf
      have e116 := hFm.old 116 rfl
      conv at e116 => rhs; whnf
      have e117 := hFm.old 117 rfl
      conv at e117 => rhs; whnf
      have e118 := hFm.old 118 rfl
      conv at e118 => rhs; whnf
      have e119 := hFm.old 119 rfl
      conv at e119 => rhs; whnf
      have e120 := hFm.old 120 rfl
      conv at e120 => rhs; whnf
      have e121 := hFm.old 121 rfl
      conv at e121 => rhs; whnf
      have e122 := hFm.old 122 rfl
      conv at e122 => rhs; whnf
      have e123 := hFm.old 123 rfl
      conv at e123 => rhs; whnf
      have hsz := hFm.size
      have hdf := hFm.defers
      clear hd hFm
      obtain ⟨t, df⟩ := a
      simp only at hsz hdf
      subst hdf
      obtain ⟨x, hx⟩ : ∃ x : Nat → Value, ∀ i, t.getD i undef = x i := ⟨fun i => t.getD i undef, fun _ => rfl⟩
      have h112 := (hx 112).symm.trans e112
      have h113 := (hx 113).symm.trans e113
      have h0 := (hx 0).symm.trans e0
      have h1 := (hx 1).symm.trans e1
      have h2 := (hx 2).symm.trans e2
      have h3 := (hx 3).symm.trans e3
      have h4 := (hx 4).symm.trans e4
      have h5 := (hx 5).symm.trans e5
      have h6 := (hx 6).symm.trans e6
      have h7 := (hx 7).symm.trans e7
      have h8 := (hx 8).symm.trans e8
      have h9 := (hx 9).symm.trans e9
      have h10 := (hx 10).symm.trans e10
      have h11 := (hx 11).symm.trans e11
      have h12 := (hx 12).symm.trans e12
      have h13 := (hx 13).symm.trans e13
      have h14 := (hx 14).symm.trans e14
      have h15 := (hx 15).symm.trans e15
      have h16 := (hx 16).symm.trans e16
      have h17 := (hx 17).symm.trans e17
      have h18 := (hx 18).symm.trans e18
      have h19 := (hx 19).symm.trans e19
      have h20 := (hx 20).symm.trans e20
      have h21 := (hx 21).symm.trans e21
      have h22 := (hx 22).symm.trans e22
      have h23 := (hx 23).symm.trans e23
      have h24 := (hx 24).symm.trans e24
      have h25 := (hx 25).symm.trans e25
      have h26 := (hx 26).symm.trans e26
      have h27 := (hx 27).symm.trans e27
      have h28 := (hx 28).symm.trans e28
      have h29 := (hx 29).symm.trans e29
      have h30 := (hx 30).symm.trans e30
      have h31 := (hx 31).symm.trans e31
      have h32 := (hx 32).symm.trans e32
      have h33 := (hx 33).symm.trans e33
      have h34 := (hx 34).symm.trans e34
      have h35 := (hx 35).symm.trans e35
      have h36 := (hx 36).symm.trans e36
      have h37 := (hx 37).symm.trans e37
      have h38 := (hx 38).symm.trans e38
      have h39 := (hx 39).symm.trans e39
      have h40 := (hx 40).symm.trans e40
      have h41 := (hx 41).symm.trans e41
      have h42 := (hx 42).symm.trans e42
      have h43 := (hx 43).symm.trans e43
      have h44 := (hx 44).symm.trans e44
      have h45 := (hx 45).symm.trans e45
      have h46 := (hx 46).symm.trans e46
      have h47 := (hx 47).symm.trans e47
      have h48 := (hx 48).symm.trans e48
      have h49 := (hx 49).symm.trans e49
      have h50 := (hx 50).symm.trans e50
      have h51 := (hx 51).symm.trans e51
      have h52 := (hx 52).symm.trans e52
      have h53 := (hx 53).symm.trans e53
      have h54 := (hx 54).symm.trans e54
      have h55 := (hx 55).symm.trans e55
      have h56 := (hx 56).symm.trans e56
      have h57 := (hx 57).symm.trans e57
      have h58 := (hx 58).symm.trans e58
      have h59 := (hx 59).symm.trans e59
      have h60 := (hx 60).symm.trans e60
      have h61 := (hx 61).symm.trans e61
      have h62 := (hx 62).symm.trans e62
      have h63 := (hx 63).symm.trans e63
      have h64 := (hx 64).symm.trans e64
      have h65 := (hx 65).symm.trans e65
      have h66 := (hx 66).symm.trans e66
      have h67 := (hx 67).symm.trans e67
      have h68 := (hx 68).symm.trans e68
      have h69 := (hx 69).symm.trans e69
      have h70 := (hx 70).symm.trans e70
      have h71 := (hx 71).symm.trans e71
      have h72 := (hx 72).symm.trans e72
      have h73 := (hx 73).symm.trans e73
      have h74 := (hx 74).symm.trans e74
      have h75 := (hx 75).symm.trans e75
      have h76 := (hx 76).symm.trans e76
      have h77 := (hx 77).symm.trans e77
      have h78 := (hx 78).symm.trans e78
      have h79 := (hx 79).symm.trans e79
      have h80 := (hx 80).symm.trans e80
      have h81 := (hx 81).symm.trans e81
      have h82 := (hx 82).symm.trans e82
      have h83 := (hx 83).symm.trans e83
      have h84 := (hx 84).symm.trans e84
      have h85 := (hx 85).symm.trans e85
      have h86 := (hx 86).symm.trans e86
      have h87 := (hx 87).symm.trans e87
      have h88 := (hx 88).symm.trans e88
      have h89 := (hx 89).symm.trans e89
      have h90 := (hx 90).symm.trans e90
      have h91 := (hx 91).symm.trans e91
      have h92 := (hx 92).symm.trans e92
      have h93 := (hx 93).symm.trans e93
      have h94 := (hx 94).symm.trans e94
      have h95 := (hx 95).symm.trans e95
      have h96 := (hx 96).symm.trans e96
      have h97 := (hx 97).symm.trans e97
      have h98 := (hx 98).symm.trans e98
      have h99 := (hx 99).symm.trans e99
      have h100 := (hx 100).symm.trans e100
      have h101 := (hx 101).symm.trans e101
      have h102 := (hx 102).symm.trans e102
      have h103 := (hx 103).symm.trans e103
      have h114 := (hx 114).symm.trans e114
      have h115 := (hx 115).symm.trans e115
      have h116 := (hx 116).symm.trans e116
      have h117 := (hx 117).symm.trans e117
      have h118 := (hx 118).symm.trans e118
      have h119 := (hx 119).symm.trans e119
      have h120 := (hx 120).symm.trans e120
      have h121 := (hx 121).symm.trans e121
      have h122 := (hx 122).symm.trans e122
      have h123 := (hx 123).symm.trans e123
      have ht' : t = #[x 0, x 1, x 2, x 3, x 4, x 5, x 6, x 7, x 8, x 9, x 10, x 11, x 12, x 13, x 14, x 15, x 16, x 17, x 18, x 19, x 20, x 21, x 22, x 23, x 24, x 25, x 26, x 27, x 28, x 29, x 30, x 31, x 32, x 33, x 34, x 35, x 36, x 37, x 38, x 39, x 40, x 41, x 42, x 43, x 44, x 45, x 46, x 47, x 48, x 49, x 50, x 51, x 52, x 53, x 54, x 55, x 56, x 57, x 58, x 59, x 60, x 61, x 62, x 63, x 64, x 65, x 66, x 67, x 68, x 69, x 70, x 71, x 72, x 73, x 74, x 75, x 76, x 77, x 78, x 79, x 80, x 81, x 82, x 83, x 84, x 85, x 86, x 87, x 88, x 89, x 90, x 91, x 92, x 93, x 94, x 95, x 96, x 97, x 98, x 99, x 100, x 101, x 102, x 103, x 104, x 105, x 106, x 107, x 108, x 109, x 110, x 111, x 112, x 113, x 114, x 115, x 116, x 117, x 118, x 119, x 120, x 121, x 122, x 123] := frame_lit t 124 hsz x hx
      clear hx hsz hz e112 e113 e0 e1 e2 e3 e4 e5 e6 e7 e8 e9 e10 e11 e12 e13 e14 e15 e16 e17 e18 e19 e20 e21 e22 e23 e24 e25 e26 e27 e28 e29 e30 e31 e32 e33 e34 e35 e36 e37 e38 e39 e40 e41 e42 e43 e44 e45 e46 e47 e48 e49 e50 e51 e52 e53 e54 e55 e56 e57 e58 e59 e60 e61 e62 e63 e64 e65 e66 e67 e68 e69 e70 e71 e72 e73 e74 e75 e76 e77 e78 e79 e80 e81 e82 e83 e84 e85 e86 e87 e88 e89 e90 e91 e92 e93 e94 e95 e96 e97 e98 e99 e100 e101 e102 e103 e114 e115 e116 e117 e118 e119 e120 e121 e122 e123
      subst ht'
      dsimp only
      rw [h112, h113, h0, h1, h2, h3, h4, h5, h6, h7, h8, h9, h10, h11, h12, h13, h14, h15, h16, h17, h18, h19, h20, h21, h22, h23, h24, h25, h26, h27, h28, h29, h30, h31, h32, h33, h34, h35, h36, h37, h38, h39, h40, h41, h42, h43, h44, h45, h46, h47, h48, h49, h50, h51, h52, h53, h54, h55, h56, h57, h58, h59, h60, h61, h62, h63, h64, h65, h66, h67, h68, h69, h70, h71, h72, h73, h74, h75, h76, h77, h78, h79, h80, h81, h82, h83, h84, h85, h86, h87, h88, h89, h90, h91, h92, h93, h94, h95, h96, h97, h98, h99, h100, h101, h102, h103, h114, h115, h116, h117, h118, h119, h120, h121, h122, h123]
      clear h112 h113 h0 h1 h2 h3 h4 h5 h6 h7 h8 h9 h10 h11 h12 h13 h14 h15 h16 h17 h18 h19 h20 h21 h22 h23 h24 h25 h26 h27 h28 h29 h30 h31 h32 h33 h34 h35 h36 h37 h38 h39 h40 h41 h42 h43 h44 h45 h46 h47 h48 h49 h50 h51 h52 h53 h54 h55 h56 h57 h58 h59 h60 h61 h62 h63 h64 h65 h66 h67 h68 h69 h70 h71 h72 h73 h74 h75 h76 h77 h78 h79 h80 h81 h82 h83 h84 h85 h86 h87 h88 h89 h90 h91 h92 h93 h94 h95 h96 h97 h98 h99 h100 h101 h102 h103 h114 h115 h116 h117 h118 h119 h120 h121 h122 h123
      have hb5 := from_drew hS
      replace hc1 := (hb5.cell (p := ⟨b1, o1 + j * 2, none⟩) hb1).trans hc1
      replace hc2 := (hb5.cell (p := ⟨b1, o1 + j * 2 + 1, none⟩) hb1).trans hc2
      have zR5 : ∀ i, w5.frozen? ⟨b1, i, none⟩ = false := fun i => (hb5.frozen (p := ⟨b1, i, none⟩) hb1).trans (zR i)
      replace hB := hB.trans (hb5.mono hB.size)
      replace hD := hD.later hb5
      replace hG := hG.later hb5
      replace hrg := hrg.later hb5
      clear hS hb5 zR
      go_upto_region 27 with fail
      replace hG : Blk ((w5.setCell ⟨b1, o1 + j * 2, none⟩ (.int .i64 f.P.K)).setCell ⟨b1, o1 + j * 2 + 1, none⟩ (.int .i64 f.P.V)) gb 29 (frBox ⟨g.K, g.R, g.S, g.P, g.E.set j f.P⟩ (some ⟨b1, o1, none⟩) gc) := by
        unfold frBox
        show Blk _ gb _ #[.int .i64 g.K, .int .i64 g.R, .int .i64 g.S, .int .i64 g.P.K, .int .i64 g.P.V, .slice (some ⟨b1, o1, none⟩) (g.E.set j f.P).length gc]
        rw [List.length_set]
        exact (hG.far (p := ⟨b1, o1 + j * 2, none⟩) (by show gb ≠ b1; omega) _).far (p := ⟨b1, o1 + j * 2 + 1, none⟩) (by show gb ≠ b1; omega) _
      replace hD := (hD.far (p := ⟨b1, o1 + j * 2, none⟩) (by show db ≠ b1; have := hfr.1; omega) (.int .i64 f.P.K)).far (p := ⟨b1, o1 + j * 2 + 1, none⟩) (by show db ≠ b1; have := hfr.1; omega) (.int .i64 f.P.V)
      replace hB := (hB.setCell (p := ⟨b1, o1 + j * 2, none⟩) hfr.2 (.int .i64 f.P.K)).setCell (p := ⟨b1, o1 + j * 2 + 1, none⟩) hfr.2 (.int .i64 f.P.V)
      replace hrg := hrg.setAt j hjl f.P iQ iV
      generalize (w5.setCell ⟨b1, o1 + j * 2, none⟩ (.int .i64 f.P.K)).setCell ⟨b1, o1 + j * 2 + 1, none⟩ (.int .i64 f.P.V) = wx at *
      obtain ⟨g2, ga2, gc2, hG, hrg⟩ : ∃ (g2 : Fr) (ga2 : Option Addr) (gc2 : Nat), Blk wx gb 29 (frBox g2 ga2 gc2) ∧ RowT wx ga2 g2.E := ⟨_, _, _, hG, hrg⟩
      refine region_slots [some 117, some 118, some 119, some 120, some 121, some 122, some 123, some 10] [none, none, none, none, none, none, none, none] 124 8 rfl (by kernel_rfl) (by kernel_rfl) rfl rfl ?_
      apply step_fix
      · intro a W Zs hS hFm hz hd
        have h11 := hFm.old 11 rfl
        conv at h11 => rhs; whnf
        replace h11 := ev_get hFm.size h11
        have hq := (hD.drew1.later hS).at
        unfold confBox at hq
        refine .inl ⟨wanted_none rfl _, fun K hK => ?_⟩
        have HK := Lib.hid hK
        clear hd hFm hK
        go_simp
        exact HK.out _ _ rfl (Below.refl _ _)
      simp only [List.nil_append, List.cons_append]
      apply step_fix
      · intro a W Zs hS hFm hz hd
        have h12 := hFm.old 12 rfl
        conv at h12 => rhs; whnf
        replace h12 := ev_get hFm.size h12
        have hq := (hG.drew1.later hS).at
        unfold frBox at hq
        refine .inl ⟨wanted_none rfl _, fun K hK => ?_⟩
        have HK := Lib.hid hK
        clear hd hFm hK
        go_simp
        exact HK.out _ _ rfl (Below.refl _ _)
      simp only [List.nil_append, List.cons_append]
      apply step_fix
      · intro a W Zs hS hFm hz hd
        have h117 := ev_get hFm.size (hd 0 117 rfl rfl)
        have h118 := ev_get hFm.size (hd 1 118 rfl rfl)
        refine .inl ⟨wanted_none rfl _, fun K hK => ?_⟩
        have HK := Lib.hid hK
        clear hd hFm hK
        go_simp
        refine (HK1.out _ hok g2 ga2 gc2 (hrg.drew1.later hS)).mono ?_
        rintro e W' ⟨rfl, hb⟩
        exact HK.out _ _ rfl hb
      simp only [List.nil_append, List.cons_append]
      apply step_fix
      · intro a W Zs hS hFm hz hd
        have h11 := hFm.old 11 rfl
        conv at h11 => rhs; whnf
        replace h11 := ev_get hFm.size h11
        have hq := (hD.drew1.later hS).at
        unfold confBox at hq
        refine .inl ⟨wanted_none rfl _, fun K hK => ?_⟩
        have HK := Lib.hid hK
        clear hd hFm hK
        go_simp
        exact HK.out _ _ rfl (Below.refl _ _)
      simp only [List.nil_append, List.cons_append]
      apply step_fix
      · intro a W Zs hS hFm hz hd
        have h12 := hFm.old 12 rfl
        conv at h12 => rhs; whnf
        replace h12 := ev_get hFm.size h12
        have hq := (hG.drew1.later hS).at
        unfold frBox at hq
        refine .inl ⟨wanted_none rfl _, fun K hK => ?_⟩
        have HK := Lib.hid hK
        clear hd hFm hK
        go_simp
        exact HK.out _ _ rfl (Below.refl _ _)
      simp only [List.nil_append, List.cons_append]
      apply step_fix
      · intro a W Zs hS hFm hz hd
        have h120 := ev_get hFm.size (hd 3 120 rfl rfl)
        have h121 := ev_get hFm.size (hd 4 121 rfl rfl)
        refine .inl ⟨wanted_none rfl _, fun K hK => ?_⟩
        have HK := Lib.hid hK
        clear hd hFm hK
        go_simp
        refine (HK2.out _ hok g2 ga2 gc2 (hrg.drew1.later hS)).mono ?_
        rintro e W' ⟨rfl, hb⟩
        exact HK.out _ _ rfl hb
      simp only [List.nil_append, List.cons_append]
      apply step_fix
      · intro a W Zs hS hFm hz hd
        have h119 := ev_get hFm.size (hd 2 119 rfl rfl)
        have h122 := ev_get hFm.size (hd 5 122 rfl rfl)
        refine .inl ⟨wanted_none rfl _, fun K hK => ?_⟩
        have HK := Lib.hid hK
        clear hd hFm hK
        go_simp
        exact HK.out _ _ rfl (Below.refl _ _)
      simp only [List.nil_append, List.cons_append]
      apply step_fix
      · intro a W Zs hS hFm hz hd
        have h123 := ev_get hFm.size (hd 6 123 rfl rfl)
        refine .inl ⟨wanted_none rfl _, fun K hK => ?_⟩
        have HK := Lib.hid hK
        clear hd hFm hK
        go_simp
        exact HK.out _ _ rfl (Below.refl _ _)
      simp only [List.nil_append, List.cons_append]
      intro a w9 Zs hS hFm hz hd
      have e10 := hd 7 10 (by decide) rfl
      have e0 := hFm.old 0 rfl
      conv at e0 => rhs; whnf
      have e1 := hFm.old 1 rfl
      conv at e1 => rhs; whnf
      have e2 := hFm.old 2 rfl
      conv at e2 => rhs; whnf
      have e3 := hFm.old 3 rfl
      conv at e3 => rhs; whnf
      have e4 := hFm.old 4 rfl
      conv at e4 => rhs; whnf
      have e5 := hFm.old 5 rfl
      conv at e5 => rhs; whnf
      have e6 := hFm.old 6 rfl
      conv at e6 => rhs; whnf
      have e7 := hFm.old 7 rfl
      conv at e7 => rhs; whnf
      have e8 := hFm.old 8 rfl
      conv at e8 => rhs; whnf
      have e9 := hFm.old 9 rfl
      conv at e9 => rhs; whnf
      have e11 := hFm.old 11 rfl
      conv at e11 => rhs; whnf
      have e12 := hFm.old 12 rfl
      conv at e12 => rhs; whnf
      have e13 := hFm.old 13 rfl
      conv at e13 => rhs; whnf
      have e14 := hFm.old 14 rfl
      conv at e14 => rhs; whnf
      have e15 := hFm.old 15 rfl
      conv at e15 => rhs; whnf
      have e16 := hFm.old 16 rfl
      conv at e16 => rhs; whnf
      have e17 := hFm.old 17 rfl
      conv at e17 => rhs; whnf
      have e18 := hFm.old 18 rfl
      conv at e18 => rhs; whnf
      have e19 := hFm.old 19 rfl
      conv at e19 => rhs; whnf
      have e20 := hFm.old 20 rfl
      conv at e20 => rhs; whnf
      have e21 := hFm.old 21 rfl
      conv at e21 => rhs; whnf
      have e22 := hFm.old 22 rfl
      conv at e22 => rhs; whnf
      have e23 := hFm.old 23 rfl
      conv at e23 => rhs; whnf
      have e24 := hFm.old 24 rfl
      conv at e24 => rhs; whnf
      have e25 := hFm.old 25 rfl
      conv at e25 => rhs; whnf
      have e26 := hFm.old 26 rfl
      conv at e26 => rhs; whnf
      have e27 := hFm.old 27 rfl
      conv at e27 => rhs; whnf
      have e28 := hFm.old 28 rfl
      conv at e28 => rhs; whnf
      have e29 := hFm.old 29 rfl
      conv at e29 => rhs; whnf
      have e30 := hFm.old 30 rfl
      conv at e30 => rhs; whnf
      have e31 := hFm.old 31 rfl
      conv at e31 => rhs; whnf
      have e32 := hFm.old 32 rfl
      conv at e32 => rhs; whnf
      have e33 := hFm.old 33 rfl
      conv at e33 => rhs; whnf
      have e34 := hFm.old 34 rfl
      conv at e34 => rhs; whnf
      have e35 := hFm.old 35 rfl
      conv at e35 => rhs; whnf
      have e36 := hFm.old 36 rfl
      conv at e36 => rhs; whnf
      have e37 := hFm.old 37 rfl
      conv at e37 => rhs; whnf
      have e38 := hFm.old 38 rfl
      conv at e38 => rhs; whnf
      have e39 := hFm.old 39 rfl
      conv at e39 => rhs; whnf
      have e40 := hFm.old 40 rfl
      conv at e40 => rhs; whnf
      have e41 := hFm.old 41 rfl
      conv at e41 => rhs; whnf
      have e42 := hFm.old 42 rfl
      conv at e42 => rhs; whnf
      have e43 := hFm.old 43 rfl
      conv at e43 => rhs; whnf
      have e44 := hFm.old 44 rfl
      conv at e44 => rhs; whnf
      have e45 := hFm.old 45 rfl
      conv at e45 => rhs; whnf
      have e46 := hFm.old 46 rfl
      conv at e46 => rhs; whnf
      have e47 := hFm.old 47 rfl
      conv at e47 => rhs; whnf
      have e48 := hFm.old 48 rfl
      conv at e48 => rhs; whnf
      have e49 := hFm.old 49 rfl
      conv at e49 => rhs; whnf
      have e50 := hFm.old 50 rfl
      conv at e50 => rhs; whnf
      have e51 := hFm.old 51 rfl
      conv at e51 => rhs; whnf
      have e52 := hFm.old 52 rfl
      conv at e52 => rhs; whnf
      have e53 := hFm.old 53 rfl
      conv at e53 => rhs; whnf
      have e54 := hFm.old 54 rfl
      conv at e54 => rhs; whnf
      have e55 := hFm.old 55 rfl
      conv at e55 => rhs; whnf
      have e56 := hFm.old 56 rfl
      conv at e56 => rhs; whnf
      have e57 := hFm.old 57 rfl
      conv at e57 => rhs; whnf
      have e58 := hFm.old 58 rfl
      conv at e58 => rhs; whnf
      have e59 := hFm.old 59 rfl
      conv at e59 => rhs; whnf
      have e60 := hFm.old 60 rfl
      conv at e60 => rhs; whnf
      have e61 := hFm.old 61 rfl
      conv at e61 => rhs; whnf
      have e62 := hFm.old 62 rfl
      conv at e62 => rhs; whnf
      have e63 := hFm.old 63 rfl
      conv at e63 => rhs; whnf
      have e64 := hFm.old 64 rfl
      conv at e64 => rhs; whnf
      have e65 := hFm.old 65 rfl
      conv at e65 => rhs; whnf
      have e66 := hFm.old 66 rfl
      conv at e66 => rhs; whnf
      have e67 := hFm.old 67 rfl
      conv at e67 => rhs; whnf
      have e68 := hFm.old 68 rfl
      conv at e68 => rhs; whnf
      have e69 := hFm.old 69 rfl
      conv at e69 => rhs; whnf
      have e70 := hFm.old 70 rfl
      conv at e70 => rhs; whnf
      have e71 := hFm.old 71 rfl
      conv at e71 => rhs; whnf
      have e72 := hFm.old 72 rfl
      conv at e72 => rhs; whnf
      have e73 := hFm.old 73 rfl
      conv at e73 => rhs; whnf
      have e74 := hFm.old 74 rfl
      conv at e74 => rhs; whnf
      have e75 := hFm.old 75 rfl
      conv at e75 => rhs; whnf
      have e76 := hFm.old 76 rfl
      conv at e76 => rhs; whnf
      have e77 := hFm.old 77 rfl
      conv at e77 => rhs; whnf
      have e78 := hFm.old 78 rfl
      conv at e78 => rhs; whnf
      have e79 := hFm.old 79 rfl
      conv at e79 => rhs; whnf
      have e80 := hFm.old 80 rfl
      conv at e80 => rhs; whnf
      have e81 := hFm.old 81 rfl
      conv at e81 => rhs; whnf
      have e82 := hFm.old 82 rfl
      conv at e82 => rhs; whnf
      have e83 := hFm.old 83 rfl
      conv at e83 => rhs; whnf
      have e84 := hFm.old 84 rfl
      conv at e84 => rhs; whnf
      have e85 := hFm.old 85 rfl
      conv at e85 => rhs; whnf
      have e86 := hFm.old 86 rfl
      conv at e86 => rhs; whnf
      have e87 := hFm.old 87 rfl
      conv at e87 => rhs; whnf
      have e88 := hFm.old 88 rfl
      conv at e88 => rhs; whnf
      have e89 := hFm.old 89 rfl
      conv at e89 => rhs; whnf
      have e90 := hFm.old 90 rfl
      conv at e90 => rhs; whnf
      have e91 := hFm.old 91 rfl
      conv at e91 => rhs; whnf
      have e92 := hFm.old 92 rfl
      conv at e92 => rhs; whnf
      have e93 := hFm.old 93 rfl
      conv at e93 => rhs; whnf
      have e94 := hFm.old 94 rfl
      conv at e94 => rhs; whnf
      have e95 := hFm.old 95 rfl
      conv at e95 => rhs; whnf
      have e96 := hFm.old 96 rfl
      conv at e96 => rhs; whnf
      have e97 := hFm.old 97 rfl
      conv at e97 => rhs; whnf
      have e98 := hFm.old 98 rfl
      conv at e98 => rhs; whnf
      have e99 := hFm.old 99 rfl
      conv at e99 => rhs; whnf
      have e100 := hFm.old 100 rfl
      conv at e100 => rhs; whnf
      have e101 := hFm.old 101 rfl
      conv at e101 => rhs; whnf
      have e102 := hFm.old 102 rfl
      conv at e102 => rhs; whnf
      have e103 := hFm.old 103 rfl
      conv at e103 => rhs; whnf
      have e104 := hFm.old 104 rfl
      conv at e104 => rhs; whnf
      have e105 := hFm.old 105 rfl
      conv at e105 => rhs; whnf
      have e106 := hFm.old 106 rfl
      conv at e106 => rhs; whnf
      have e107 := hFm.old 107 rfl
      conv at e107 => rhs; whnf
      have e108 := hFm.old 108 rfl
      conv at e108 => rhs; whnf
      have e109 := hFm.old 109 rfl
      conv at e109 => rhs; whnf
      have e110 := hFm.old 110 rfl
      conv at e110 => rhs; whnf
      have e111 := hFm.old 111 rfl
      conv at e111 => rhs; whnf
      have e112 := hFm.old 112 rfl
      conv at e112 => rhs; whnf
      have e113 := hFm.old 113 rfl
      conv at e113 => rhs; whnf
      have e114 := hFm.old 114 rfl
      conv at e114 => rhs; whnf
      have e115 := hFm.old 115 rfl
      conv at e115 => rhs; whnf
      have e116 := hFm.old 116 rfl
      conv at e116 => rhs; whnf
      have hsz := hFm.size
      have hdf := hFm.defers
      clear hd hFm
      obtain ⟨t, df⟩ := a
      simp only at hsz hdf
      subst hdf
      obtain ⟨x, hx⟩ : ∃ x : Nat → Value, ∀ i, t.getD i undef = x i := ⟨fun i => t.getD i undef, fun _ => rfl⟩
      have h10 := (hx 10).symm.trans e10
      have h0 := (hx 0).symm.trans e0
      have h1 := (hx 1).symm.trans e1
      have h2 := (hx 2).symm.trans e2
      have h3 := (hx 3).symm.trans e3
      have h4 := (hx 4).symm.trans e4
      have h5 := (hx 5).symm.trans e5
      have h6 := (hx 6).symm.trans e6
      have h7 := (hx 7).symm.trans e7
      have h8 := (hx 8).symm.trans e8
      have h9 := (hx 9).symm.trans e9
      have h11 := (hx 11).symm.trans e11
      have h12 := (hx 12).symm.trans e12
      have h13 := (hx 13).symm.trans e13
      have h14 := (hx 14).symm.trans e14
      have h15 := (hx 15).symm.trans e15
      have h16 := (hx 16).symm.trans e16
      have h17 := (hx 17).symm.trans e17
      have h18 := (hx 18).symm.trans e18
      have h19 := (hx 19).symm.trans e19
      have h20 := (hx 20).symm.trans e20
      have h21 := (hx 21).symm.trans e21
      have h22 := (hx 22).symm.trans e22
      have h23 := (hx 23).symm.trans e23
      have h24 := (hx 24).symm.trans e24
      have h25 := (hx 25).symm.trans e25
      have h26 := (hx 26).symm.trans e26
      have h27 := (hx 27).symm.trans e27
      have h28 := (hx 28).symm.trans e28
      have h29 := (hx 29).symm.trans e29
      have h30 := (hx 30).symm.trans e30
      have h31 := (hx 31).symm.trans e31
      have h32 := (hx 32).symm.trans e32
      have h33 := (hx 33).symm.trans e33
      have h34 := (hx 34).symm.trans e34
      have h35 := (hx 35).symm.trans e35
      have h36 := (hx 36).symm.trans e36
      have h37 := (hx 37).symm.trans e37
      have h38 := (hx 38).symm.trans e38
      have h39 := (hx 39).symm.trans e39
      have h40 := (hx 40).symm.trans e40
      have h41 := (hx 41).symm.trans e41
      have h42 := (hx 42).symm.trans e42
      have h43 := (hx 43).symm.trans e43
      have h44 := (hx 44).symm.trans e44
      have h45 := (hx 45).symm.trans e45
      have h46 := (hx 46).symm.trans e46
      have h47 := (hx 47).symm.trans e47
      have h48 := (hx 48).symm.trans e48
      have h49 := (hx 49).symm.trans e49
      have h50 := (hx 50).symm.trans e50
      have h51 := (hx 51).symm.trans e51
      have h52 := (hx 52).symm.trans e52
      have h53 := (hx 53).symm.trans e53
      have h54 := (hx 54).symm.trans e54
      have h55 := (hx 55).symm.trans e55
      have h56 := (hx 56).symm.trans e56
      have h57 := (hx 57).symm.trans e57
      have h58 := (hx 58).symm.trans e58
      have h59 := (hx 59).symm.trans e59
      have h60 := (hx 60).symm.trans e60
      have h61 := (hx 61).symm.trans e61
      have h62 := (hx 62).symm.trans e62
      have h63 := (hx 63).symm.trans e63
      have h64 := (hx 64).symm.trans e64
      have h65 := (hx 65).symm.trans e65
      have h66 := (hx 66).symm.trans e66
      have h67 := (hx 67).symm.trans e67
      have h68 := (hx 68).symm.trans e68
      have h69 := (hx 69).symm.trans e69
      have h70 := (hx 70).symm.trans e70
      have h71 := (hx 71).symm.trans e71
      have h72 := (hx 72).symm.trans e72
      have h73 := (hx 73).symm.trans e73
      have h74 := (hx 74).symm.trans e74
      have h75 := (hx 75).symm.trans e75
      have h76 := (hx 76).symm.trans e76
      have h77 := (hx 77).symm.trans e77
      have h78 := (hx 78).symm.trans e78
      have h79 := (hx 79).symm.trans e79
      have h80 := (hx 80).symm.trans e80
      have h81 := (hx 81).symm.trans e81
      have h82 := (hx 82).symm.trans e82
      have h83 := (hx 83).symm.trans e83
      have h84 := (hx 84).symm.trans e84
      have h85 := (hx 85).symm.trans e85
      have h86 := (hx 86).symm.trans e86
      have h87 := (hx 87).symm.trans e87
      have h88 := (hx 88).symm.trans e88
      have h89 := (hx 89).symm.trans e89
      have h90 := (hx 90).symm.trans e90
      have h91 := (hx 91).symm.trans e91
      have h92 := (hx 92).symm.trans e92
      have h93 := (hx 93).symm.trans e93
      have h94 := (hx 94).symm.trans e94
      have h95 := (hx 95).symm.trans e95
      have h96 := (hx 96).symm.trans e96
      have h97 := (hx 97).symm.trans e97
      have h98 := (hx 98).symm.trans e98
      have h99 := (hx 99).symm.trans e99
      have h100 := (hx 100).symm.trans e100
      have h101 := (hx 101).symm.trans e101
      have h102 := (hx 102).symm.trans e102
      have h103 := (hx 103).symm.trans e103
      have h104 := (hx 104).symm.trans e104
      have h105 := (hx 105).symm.trans e105
      have h106 := (hx 106).symm.trans e106
      have h107 := (hx 107).symm.trans e107
      have h108 := (hx 108).symm.trans e108
      have h109 := (hx 109).symm.trans e109
      have h110 := (hx 110).symm.trans e110
      have h111 := (hx 111).symm.trans e111
      have h112 := (hx 112).symm.trans e112
      have h113 := (hx 113).symm.trans e113
      have h114 := (hx 114).symm.trans e114
      have h115 := (hx 115).symm.trans e115
      have h116 := (hx 116).symm.trans e116
      have ht' : t = #[x 0, x 1, x 2, x 3, x 4, x 5, x 6, x 7, x 8, x 9, x 10, x 11, x 12, x 13, x 14, x 15, x 16, x 17, x 18, x 19, x 20, x 21, x 22, x 23, x 24, x 25, x 26, x 27, x 28, x 29, x 30, x 31, x 32, x 33, x 34, x 35, x 36, x 37, x 38, x 39, x 40, x 41, x 42, x 43, x 44, x 45, x 46, x 47, x 48, x 49, x 50, x 51, x 52, x 53, x 54, x 55, x 56, x 57, x 58, x 59, x 60, x 61, x 62, x 63, x 64, x 65, x 66, x 67, x 68, x 69, x 70, x 71, x 72, x 73, x 74, x 75, x 76, x 77, x 78, x 79, x 80, x 81, x 82, x 83, x 84, x 85, x 86, x 87, x 88, x 89, x 90, x 91, x 92, x 93, x 94, x 95, x 96, x 97, x 98, x 99, x 100, x 101, x 102, x 103, x 104, x 105, x 106, x 107, x 108, x 109, x 110, x 111, x 112, x 113, x 114, x 115, x 116, x 117, x 118, x 119, x 120, x 121, x 122, x 123] := frame_lit t 124 hsz x hx
      clear hx hsz hz e10 e0 e1 e2 e3 e4 e5 e6 e7 e8 e9 e11 e12 e13 e14 e15 e16 e17 e18 e19 e20 e21 e22 e23 e24 e25 e26 e27 e28 e29 e30 e31 e32 e33 e34 e35 e36 e37 e38 e39 e40 e41 e42 e43 e44 e45 e46 e47 e48 e49 e50 e51 e52 e53 e54 e55 e56 e57 e58 e59 e60 e61 e62 e63 e64 e65 e66 e67 e68 e69 e70 e71 e72 e73 e74 e75 e76 e77 e78 e79 e80 e81 e82 e83 e84 e85 e86 e87 e88 e89 e90 e91 e92 e93 e94 e95 e96 e97 e98 e99 e100 e101 e102 e103 e104 e105 e106 e107 e108 e109 e110 e111 e112 e113 e114 e115 e116
      subst ht'
      dsimp only
      rw [h10, h0, h1, h2, h3, h4, h5, h6, h7, h8, h9, h11, h12, h13, h14, h15, h16, h17, h18, h19, h20, h21, h22, h23, h24, h25, h26, h27, h28, h29, h30, h31, h32, h33, h34, h35, h36, h37, h38, h39, h40, h41, h42, h43, h44, h45, h46, h47, h48, h49, h50, h51, h52, h53, h54, h55, h56, h57, h58, h59, h60, h61, h62, h63, h64, h65, h66, h67, h68, h69, h70, h71, h72, h73, h74, h75, h76, h77, h78, h79, h80, h81, h82, h83, h84, h85, h86, h87, h88, h89, h90, h91, h92, h93, h94, h95, h96, h97, h98, h99, h100, h101, h102, h103, h104, h105, h106, h107, h108, h109, h110, h111, h112, h113, h114, h115, h116]
      clear h10 h0 h1 h2 h3 h4 h5 h6 h7 h8 h9 h11 h12 h13 h14 h15 h16 h17 h18 h19 h20 h21 h22 h23 h24 h25 h26 h27 h28 h29 h30 h31 h32 h33 h34 h35 h36 h37 h38 h39 h40 h41 h42 h43 h44 h45 h46 h47 h48 h49 h50 h51 h52 h53 h54 h55 h56 h57 h58 h59 h60 h61 h62 h63 h64 h65 h66 h67 h68 h69 h70 h71 h72 h73 h74 h75 h76 h77 h78 h79 h80 h81 h82 h83 h84 h85 h86 h87 h88 h89 h90 h91 h92 h93 h94 h95 h96 h97 h98 h99 h100 h101 h102 h103 h104 h105 h106 h107 h108 h109 h110 h111 h112 h113 h114 h115 h116
      have hb9 := from_drew hS
      replace hB := hB.trans (hb9.mono hB.size)
      go_wp2
      go_ret
      exact ⟨rfl, hB⟩
  · rw [hi] at HW
    clear hi
    go_wp2_with fail
    refine (HW.out _).mono ?_
    rintro e wl ⟨rfl, rfl⟩
    have qG := hG.at
    unfold frBox at qG
    have zG := hG.frozen
    go_upto_region 27 with fail
    replace hG : Blk (w4.setCell ⟨gb, 5, none⟩ (.slice none 0 0)) gb 29 (frBox ⟨g.K, g.R, g.S, g.P, []⟩ none 0) := hG.set 5 _
    replace hD := hD.far (p := ⟨gb, 5, none⟩) (by show db ≠ gb; omega) (.slice none 0 0)
    replace hB := hB.setCell (p := ⟨gb, 5, none⟩) (by show w.heap.size ≤ gb; omega) (.slice none 0 0)
    generalize w4.setCell ⟨gb, 5, none⟩ (.slice none 0 0) = wx at *
    clear hrg
    have hrg : RowT wx none (⟨g.K, g.R, g.S, g.P, []⟩ : Fr).E := RowT.empty _ _
    clear qG zG
    obtain ⟨g2, ga2, gc2, hG, hrg⟩ : ∃ (g2 : Fr) (ga2 : Option Addr) (gc2 : Nat), Blk wx gb 29 (frBox g2 ga2 gc2) ∧ RowT wx ga2 g2.E := ⟨_, _, _, hG, hrg⟩
    refine region_slots [some 117, some 118, some 119, some 120, some 121, some 122, some 123, some 10] [none, none, none, none, none, none, none, none] 124 8 rfl (by kernel_rfl) (by kernel_rfl) rfl rfl ?_
    apply step_fix
    · intro a W Zs hS hFm hz hd
      have h11 := hFm.old 11 rfl
      conv at h11 => rhs; whnf
      replace h11 := ev_get hFm.size h11
      have hq := (hD.drew1.later hS).at
      unfold confBox at hq
      refine .inl ⟨wanted_none rfl _, fun K hK => ?_⟩
      have HK := Lib.hid hK
      clear hd hFm hK
      go_simp
      exact HK.out _ _ rfl (Below.refl _ _)
    simp only [List.nil_append, List.cons_append]
    apply step_fix
    · intro a W Zs hS hFm hz hd
      have h12 := hFm.old 12 rfl
      conv at h12 => rhs; whnf
      replace h12 := ev_get hFm.size h12
      have hq := (hG.drew1.later hS).at
      unfold frBox at hq
      refine .inl ⟨wanted_none rfl _, fun K hK => ?_⟩
      have HK := Lib.hid hK
      clear hd hFm hK
      go_simp
      exact HK.out _ _ rfl (Below.refl _ _)
    simp only [List.nil_append, List.cons_append]
    apply step_fix
    · intro a W Zs hS hFm hz hd
      have h117 := ev_get hFm.size (hd 0 117 rfl rfl)
      have h118 := ev_get hFm.size (hd 1 118 rfl rfl)
      refine .inl ⟨wanted_none rfl _, fun K hK => ?_⟩
      have HK := Lib.hid hK
      clear hd hFm hK
      go_simp
      refine (HK1.out _ hok g2 ga2 gc2 (hrg.drew1.later hS)).mono ?_
      rintro e W' ⟨rfl, hb⟩
      exact HK.out _ _ rfl hb
    simp only [List.nil_append, List.cons_append]
    apply step_fix
    · intro a W Zs hS hFm hz hd
      have h11 := hFm.old 11 rfl
      conv at h11 => rhs; whnf
      replace h11 := ev_get hFm.size h11
      have hq := (hD.drew1.later hS).at
      unfold confBox at hq
      refine .inl ⟨wanted_none rfl _, fun K hK => ?_⟩
      have HK := Lib.hid hK
      clear hd hFm hK
      go_simp
      exact HK.out _ _ rfl (Below.refl _ _)
    simp only [List.nil_append, List.cons_append]
    apply step_fix
    · intro a W Zs hS hFm hz hd
      have h12 := hFm.old 12 rfl
      conv at h12 => rhs; whnf
      replace h12 := ev_get hFm.size h12
      have hq := (hG.drew1.later hS).at
      unfold frBox at hq
      refine .inl ⟨wanted_none rfl _, fun K hK => ?_⟩
      have HK := Lib.hid hK
      clear hd hFm hK
      go_simp
      exact HK.out _ _ rfl (Below.refl _ _)
    simp only [List.nil_append, List.cons_append]
    apply step_fix
    · intro a W Zs hS hFm hz hd
      have h120 := ev_get hFm.size (hd 3 120 rfl rfl)
      have h121 := ev_get hFm.size (hd 4 121 rfl rfl)
      refine .inl ⟨wanted_none rfl _, fun K hK => ?_⟩
      have HK := Lib.hid hK
      clear hd hFm hK
      go_simp
      refine (HK2.out _ hok g2 ga2 gc2 (hrg.drew1.later hS)).mono ?_
      rintro e W' ⟨rfl, hb⟩
      exact HK.out _ _ rfl hb
    simp only [List.nil_append, List.cons_append]
    apply step_fix
    · intro a W Zs hS hFm hz hd
      have h119 := ev_get hFm.size (hd 2 119 rfl rfl)
      have h122 := ev_get hFm.size (hd 5 122 rfl rfl)
      refine .inl ⟨wanted_none rfl _, fun K hK => ?_⟩
      have HK := Lib.hid hK
      clear hd hFm hK
      go_simp
      exact HK.out _ _ rfl (Below.refl _ _)
    simp only [List.nil_append, List.cons_append]
    apply step_fix
    · intro a W Zs hS hFm hz hd
      have h123 := ev_get hFm.size (hd 6 123 rfl rfl)
      refine .inl ⟨wanted_none rfl _, fun K hK => ?_⟩
      have HK := Lib.hid hK
      clear hd hFm hK
      go_simp
      exact HK.out _ _ rfl (Below.refl _ _)
    simp only [List.nil_append, List.cons_append]
    intro a w9 Zs hS hFm hz hd
    have e10 := hd 7 10 (by decide) rfl
    have e0 := hFm.old 0 rfl
    conv at e0 => rhs; whnf
    have e1 := hFm.old 1 rfl
    conv at e1 => rhs; whnf
    have e2 := hFm.old 2 rfl
    conv at e2 => rhs; whnf
    have e3 := hFm.old 3 rfl
    conv at e3 => rhs; whnf
    have e4 := hFm.old 4 rfl
    conv at e4 => rhs; whnf
    have e5 := hFm.old 5 rfl
    conv at e5 => rhs; whnf
    have e6 := hFm.old 6 rfl
    conv at e6 => rhs; whnf
    have e7 := hFm.old 7 rfl
    conv at e7 => rhs; whnf
    have e8 := hFm.old 8 rfl
    conv at e8 => rhs; whnf
    have e9 := hFm.old 9 rfl
    conv at e9 => rhs; whnf
    have e11 := hFm.old 11 rfl
    conv at e11 => rhs; whnf
    have e12 := hFm.old 12 rfl
    conv at e12 => rhs; whnf
    have e13 := hFm.old 13 rfl
    conv at e13 => rhs; whnf
    have e14 := hFm.old 14 rfl
    conv at e14 => rhs; whnf
    have e15 := hFm.old 15 rfl
    conv at e15 => rhs; whnf
    have e16 := hFm.old 16 rfl
    conv at e16 => rhs; whnf
    have e17 := hFm.old 17 rfl
    conv at e17 => rhs; whnf
    have e18 := hFm.old 18 rfl
    conv at e18 => rhs; whnf
    have e19 := hFm.old 19 rfl
    conv at e19 => rhs; whnf
    have e20 := hFm.old 20 rfl
    conv at e20 => rhs; whnf
    have e21 := hFm.old 21 rfl
    conv at e21 => rhs; whnf
    have e22 := hFm.old 22 rfl
    conv at e22 => rhs; whnf
    have e23 := hFm.old 23 rfl
    conv at e23 => rhs; whnf
    have e24 := hFm.old 24 rfl
    conv at e24 => rhs; whnf
    have e25 := hFm.old 25 rfl
    conv at e25 => rhs; whnf
    have e26 := hFm.old 26 rfl
    conv at e26 => rhs; whnf
    have e27 := hFm.old 27 rfl
    conv at e27 => rhs; whnf
    have e28 := hFm.old 28 rfl
    conv at e28 => rhs; whnf
    have e29 := hFm.old 29 rfl
    conv at e29 => rhs; whnf
    have e30 := hFm.old 30 rfl
    conv at e30 => rhs; whnf
    have e31 := hFm.old 31 rfl
    conv at e31 => rhs; whnf
    have e32 := hFm.old 32 rfl
    conv at e32 => rhs; whnf
    have e33 := hFm.old 33 rfl
    conv at e33 => rhs; whnf
    have e34 := hFm.old 34 rfl
    conv at e34 => rhs; whnf
    have e35 := hFm.old 35 rfl
    conv at e35 => rhs; whnf
    have e36 := hFm.old 36 rfl
    conv at e36 => rhs; whnf
    have e37 := hFm.old 37 rfl
    conv at e37 => rhs; whnf
    have e38 := hFm.old 38 rfl
    conv at e38 => rhs; whnf
    have e39 := hFm.old 39 rfl
    conv at e39 => rhs; whnf
    have e40 := hFm.old 40 rfl
    conv at e40 => rhs; whnf
    have e41 := hFm.old 41 rfl
    conv at e41 => rhs; whnf
    have e42 := hFm.old 42 rfl
    conv at e42 => rhs; whnf
    have e43 := hFm.old 43 rfl
    conv at e43 => rhs; whnf
    have e44 := hFm.old 44 rfl
    conv at e44 => rhs; whnf
    have e45 := hFm.old 45 rfl
    conv at e45 => rhs; whnf
    have e46 := hFm.old 46 rfl
    conv at e46 => rhs; whnf
    have e47 := hFm.old 47 rfl
    conv at e47 => rhs; whnf
    have e48 := hFm.old 48 rfl
    conv at e48 => rhs; whnf
    have e49 := hFm.old 49 rfl
    conv at e49 => rhs; whnf
    have e50 := hFm.old 50 rfl
    conv at e50 => rhs; whnf
    have e51 := hFm.old 51 rfl
    conv at e51 => rhs; whnf
    have e52 := hFm.old 52 rfl
    conv at e52 => rhs; whnf
    have e53 := hFm.old 53 rfl
    conv at e53 => rhs; whnf
    have e54 := hFm.old 54 rfl
    conv at e54 => rhs; whnf
    have e55 := hFm.old 55 rfl
    conv at e55 => rhs; whnf
    have e56 := hFm.old 56 rfl
    conv at e56 => rhs; whnf
    have e57 := hFm.old 57 rfl
    conv at e57 => rhs; whnf
    have e58 := hFm.old 58 rfl
    conv at e58 => rhs; whnf
    have e59 := hFm.old 59 rfl
    conv at e59 => rhs; whnf
    have e60 := hFm.old 60 rfl
    conv at e60 => rhs; whnf
    have e61 := hFm.old 61 rfl
    conv at e61 => rhs; whnf
    have e62 := hFm.old 62 rfl
    conv at e62 => rhs; whnf
    have e63 := hFm.old 63 rfl
    conv at e63 => rhs; whnf
    have e64 := hFm.old 64 rfl
    conv at e64 => rhs; whnf
    have e65 := hFm.old 65 rfl
    conv at e65 => rhs; whnf
    have e66 := hFm.old 66 rfl
    conv at e66 => rhs; whnf
    have e67 := hFm.old 67 rfl
    conv at e67 => rhs; whnf
    have e68 := hFm.old 68 rfl
    conv at e68 => rhs; whnf
    have e69 := hFm.old 69 rfl
    conv at e69 => rhs; whnf
    have e70 := hFm.old 70 rfl
    conv at e70 => rhs; whnf
    have e71 := hFm.old 71 rfl
    conv at e71 => rhs; whnf
    have e72 := hFm.old 72 rfl
    conv at e72 => rhs; whnf
    have e73 := hFm.old 73 rfl
    conv at e73 => rhs; whnf
    have e74 := hFm.old 74 rfl
    conv at e74 => rhs; whnf
    have e75 := hFm.old 75 rfl
    conv at e75 => rhs; whnf
    have e76 := hFm.old 76 rfl
    conv at e76 => rhs; whnf
    have e77 := hFm.old 77 rfl
    conv at e77 => rhs; whnf
    have e78 := hFm.old 78 rfl
    conv at e78 => rhs; whnf
    have e79 := hFm.old 79 rfl
    conv at e79 => rhs; whnf
    have e80 := hFm.old 80 rfl
    conv at e80 => rhs; whnf
    have e81 := hFm.old 81 rfl
    conv at e81 => rhs; whnf
    have e82 := hFm.old 82 rfl
    conv at e82 => rhs; whnf
    have e83 := hFm.old 83 rfl
    conv at e83 => rhs; whnf
    have e84 := hFm.old 84 rfl
    conv at e84 => rhs; whnf
    have e85 := hFm.old 85 rfl
    conv at e85 => rhs; whnf
    have e86 := hFm.old 86 rfl
    conv at e86 => rhs; whnf
    have e87 := hFm.old 87 rfl
    conv at e87 => rhs; whnf
    have e88 := hFm.old 88 rfl
    conv at e88 => rhs; whnf
    have e89 := hFm.old 89 rfl
    conv at e89 => rhs; whnf
    have e90 := hFm.old 90 rfl
    conv at e90 => rhs; whnf
    have e91 := hFm.old 91 rfl
    conv at e91 => rhs; whnf
    have e92 := hFm.old 92 rfl
    conv at e92 => rhs; whnf
    have e93 := hFm.old 93 rfl
    conv at e93 => rhs; whnf
    have e94 := hFm.old 94 rfl
    conv at e94 => rhs; whnf
    have e95 := hFm.old 95 rfl
    conv at e95 => rhs; whnf
    have e96 := hFm.old 96 rfl
    conv at e96 => rhs; whnf
    have e97 := hFm.old 97 rfl
    conv at e97 => rhs; whnf
    have e98 := hFm.old 98 rfl
    conv at e98 => rhs; whnf
    have e99 := hFm.old 99 rfl
    conv at e99 => rhs; whnf
    have e100 := hFm.old 100 rfl
    conv at e100 => rhs; whnf
    have e101 := hFm.old 101 rfl
    conv at e101 => rhs; whnf
    have e102 := hFm.old 102 rfl
    conv at e102 => rhs; whnf
    have e103 := hFm.old 103 rfl
    conv at e103 => rhs; whnf
    have e104 := hFm.old 104 rfl
    conv at e104 => rhs; whnf
    have e105 := hFm.old 105 rfl
    conv at e105 => rhs; whnf
    have e106 := hFm.old 106 rfl
    conv at e106 => rhs; whnf
    have e107 := hFm.old 107 rfl
    conv at e107 => rhs; whnf
    have e108 := hFm.old 108 rfl
    conv at e108 => rhs; whnf
    have e109 := hFm.old 109 rfl
    conv at e109 => rhs; whnf
    have e110 := hFm.old 110 rfl
    conv at e110 => rhs; whnf
    have e111 := hFm.old 111 rfl
    conv at e111 => rhs; whnf
    have e112 := hFm.old 112 rfl
    conv at e112 => rhs; whnf
    have e113 := hFm.old 113 rfl
    conv at e113 => rhs; whnf
    have e114 := hFm.old 114 rfl
    conv at e114 => rhs; whnf
    have e115 := hFm.old 115 rfl
    conv at e115 => rhs; whnf
    have e116 := hFm.old 116 rfl
    conv at e116 => rhs; whnf
    have hsz := hFm.size
    have hdf := hFm.defers
    clear hd hFm
    obtain ⟨t, df⟩ := a
    simp only at hsz hdf
    subst hdf
    obtain ⟨x, hx⟩ : ∃ x : Nat → Value, ∀ i, t.getD i undef = x i := ⟨fun i => t.getD i undef, fun _ => rfl⟩
    have h10 := (hx 10).symm.trans e10
    have h0 := (hx 0).symm.trans e0
    have h1 := (hx 1).symm.trans e1
    have h2 := (hx 2).symm.trans e2
    have h3 := (hx 3).symm.trans e3
    have h4 := (hx 4).symm.trans e4
    have h5 := (hx 5).symm.trans e5
    have h6 := (hx 6).symm.trans e6
    have h7 := (hx 7).symm.trans e7
    have h8 := (hx 8).symm.trans e8
    have h9 := (hx 9).symm.trans e9
    have h11 := (hx 11).symm.trans e11
    have h12 := (hx 12).symm.trans e12
    have h13 := (hx 13).symm.trans e13
    have h14 := (hx 14).symm.trans e14
    have h15 := (hx 15).symm.trans e15
    have h16 := (hx 16).symm.trans e16
    have h17 := (hx 17).symm.trans e17
    have h18 := (hx 18).symm.trans e18
    have h19 := (hx 19).symm.trans e19
    have h20 := (hx 20).symm.trans e20
    have h21 := (hx 21).symm.trans e21
    have h22 := (hx 22).symm.trans e22
    have h23 := (hx 23).symm.trans e23
    have h24 := (hx 24).symm.trans e24
    have h25 := (hx 25).symm.trans e25
    have h26 := (hx 26).symm.trans e26
    have h27 := (hx 27).symm.trans e27
    have h28 := (hx 28).symm.trans e28
    have h29 := (hx 29).symm.trans e29
    have h30 := (hx 30).symm.trans e30
    have h31 := (hx 31).symm.trans e31
    have h32 := (hx 32).symm.trans e32
    have h33 := (hx 33).symm.trans e33
    have h34 := (hx 34).symm.trans e34
    have h35 := (hx 35).symm.trans e35
    have h36 := (hx 36).symm.trans e36
    have h37 := (hx 37).symm.trans e37
    have h38 := (hx 38).symm.trans e38
    have h39 := (hx 39).symm.trans e39
    have h40 := (hx 40).symm.trans e40
    have h41 := (hx 41).symm.trans e41
    have h42 := (hx 42).symm.trans e42
    have h43 := (hx 43).symm.trans e43
    have h44 := (hx 44).symm.trans e44
    have h45 := (hx 45).symm.trans e45
    have h46 := (hx 46).symm.trans e46
    have h47 := (hx 47).symm.trans e47
    have h48 := (hx 48).symm.trans e48
    have h49 := (hx 49).symm.trans e49
    have h50 := (hx 50).symm.trans e50
    have h51 := (hx 51).symm.trans e51
    have h52 := (hx 52).symm.trans e52
    have h53 := (hx 53).symm.trans e53
    have h54 := (hx 54).symm.trans e54
    have h55 := (hx 55).symm.trans e55
    have h56 := (hx 56).symm.trans e56
    have h57 := (hx 57).symm.trans e57
    have h58 := (hx 58).symm.trans e58
    have h59 := (hx 59).symm.trans e59
    have h60 := (hx 60).symm.trans e60
    have h61 := (hx 61).symm.trans e61
    have h62 := (hx 62).symm.trans e62
    have h63 := (hx 63).symm.trans e63
    have h64 := (hx 64).symm.trans e64
    have h65 := (hx 65).symm.trans e65
    have h66 := (hx 66).symm.trans e66
    have h67 := (hx 67).symm.trans e67
    have h68 := (hx 68).symm.trans e68
    have h69 := (hx 69).symm.trans e69
    have h70 := (hx 70).symm.trans e70
    have h71 := (hx 71).symm.trans e71
    have h72 := (hx 72).symm.trans e72
    have h73 := (hx 73).symm.trans e73
    have h74 := (hx 74).symm.trans e74
    have h75 := (hx 75).symm.trans e75
    have h76 := (hx 76).symm.trans e76
    have h77 := (hx 77).symm.trans e77
    have h78 := (hx 78).symm.trans e78
    have h79 := (hx 79).symm.trans e79
    have h80 := (hx 80).symm.trans e80
    have h81 := (hx 81).symm.trans e81
    have h82 := (hx 82).symm.trans e82
    have h83 := (hx 83).symm.trans e83
    have h84 := (hx 84).symm.trans e84
    have h85 := (hx 85).symm.trans e85
    have h86 := (hx 86).symm.trans e86
    have h87 := (hx 87).symm.trans e87
    have h88 := (hx 88).symm.trans e88
    have h89 := (hx 89).symm.trans e89
    have h90 := (hx 90).symm.trans e90
    have h91 := (hx 91).symm.trans e91
    have h92 := (hx 92).symm.trans e92
    have h93 := (hx 93).symm.trans e93
    have h94 := (hx 94).symm.trans e94
    have h95 := (hx 95).symm.trans e95
    have h96 := (hx 96).symm.trans e96
    have h97 := (hx 97).symm.trans e97
    have h98 := (hx 98).symm.trans e98
    have h99 := (hx 99).symm.trans e99
    have h100 := (hx 100).symm.trans e100
    have h101 := (hx 101).symm.trans e101
    have h102 := (hx 102).symm.trans e102
    have h103 := (hx 103).symm.trans e103
    have h104 := (hx 104).symm.trans e104
    have h105 := (hx 105).symm.trans e105
    have h106 := (hx 106).symm.trans e106
    have h107 := (hx 107).symm.trans e107
    have h108 := (hx 108).symm.trans e108
    have h109 := (hx 109).symm.trans e109
    have h110 := (hx 110).symm.trans e110
    have h111 := (hx 111).symm.trans e111
    have h112 := (hx 112).symm.trans e112
    have h113 := (hx 113).symm.trans e113
    have h114 := (hx 114).symm.trans e114
    have h115 := (hx 115).symm.trans e115
    have h116 := (hx 116).symm.trans e116
    have ht' : t = #[x 0, x 1, x 2, x 3, x 4, x 5, x 6, x 7, x 8, x 9, x 10, x 11, x 12, x 13, x 14, x 15, x 16, x 17, x 18, x 19, x 20, x 21, x 22, x 23, x 24, x 25, x 26, x 27, x 28, x 29, x 30, x 31, x 32, x 33, x 34, x 35, x 36, x 37, x 38, x 39, x 40, x 41, x 42, x 43, x 44, x 45, x 46, x 47, x 48, x 49, x 50, x 51, x 52, x 53, x 54, x 55, x 56, x 57, x 58, x 59, x 60, x 61, x 62, x 63, x 64, x 65, x 66, x 67, x 68, x 69, x 70, x 71, x 72, x 73, x 74, x 75, x 76, x 77, x 78, x 79, x 80, x 81, x 82, x 83, x 84, x 85, x 86, x 87, x 88, x 89, x 90, x 91, x 92, x 93, x 94, x 95, x 96, x 97, x 98, x 99, x 100, x 101, x 102, x 103, x 104, x 105, x 106, x 107, x 108, x 109, x 110, x 111, x 112, x 113, x 114, x 115, x 116, x 117, x 118, x 119, x 120, x 121, x 122, x 123] := frame_lit t 124 hsz x hx
    clear hx hsz hz e10 e0 e1 e2 e3 e4 e5 e6 e7 e8 e9 e11 e12 e13 e14 e15 e16 e17 e18 e19 e20 e21 e22 e23 e24 e25 e26 e27 e28 e29 e30 e31 e32 e33 e34 e35 e36 e37 e38 e39 e40 e41 e42 e43 e44 e45 e46 e47 e48 e49 e50 e51 e52 e53 e54 e55 e56 e57 e58 e59 e60 e61 e62 e63 e64 e65 e66 e67 e68 e69 e70 e71 e72 e73 e74 e75 e76 e77 e78 e79 e80 e81 e82 e83 e84 e85 e86 e87 e88 e89 e90 e91 e92 e93 e94 e95 e96 e97 e98 e99 e100 e101 e102 e103 e104 e105 e106 e107 e108 e109 e110 e111 e112 e113 e114 e115 e116
    subst ht'
    dsimp only
    rw [h10, h0, h1, h2, h3, h4, h5, h6, h7, h8, h9, h11, h12, h13, h14, h15, h16, h17, h18, h19, h20, h21, h22, h23, h24, h25, h26, h27, h28, h29, h30, h31, h32, h33, h34, h35, h36, h37, h38, h39, h40, h41, h42, h43, h44, h45, h46, h47, h48, h49, h50, h51, h52, h53, h54, h55, h56, h57, h58, h59, h60, h61, h62, h63, h64, h65, h66, h67, h68, h69, h70, h71, h72, h73, h74, h75, h76, h77, h78, h79, h80, h81, h82, h83, h84, h85, h86, h87, h88, h89, h90, h91, h92, h93, h94, h95, h96, h97, h98, h99, h100, h101, h102, h103, h104, h105, h106, h107, h108, h109, h110, h111, h112, h113, h114, h115, h116]
    clear h10 h0 h1 h2 h3 h4 h5 h6 h7 h8 h9 h11 h12 h13 h14 h15 h16 h17 h18 h19 h20 h21 h22 h23 h24 h25 h26 h27 h28 h29 h30 h31 h32 h33 h34 h35 h36 h37 h38 h39 h40 h41 h42 h43 h44 h45 h46 h47 h48 h49 h50 h51 h52 h53 h54 h55 h56 h57 h58 h59 h60 h61 h62 h63 h64 h65 h66 h67 h68 h69 h70 h71 h72 h73 h74 h75 h76 h77 h78 h79 h80 h81 h82 h83 h84 h85 h86 h87 h88 h89 h90 h91 h92 h93 h94 h95 h96 h97 h98 h99 h100 h101 h102 h103 h104 h105 h106 h107 h108 h109 h110 h111 h112 h113 h114 h115 h116
    have hb9 := from_drew hS
    replace hB := hB.trans (hb9.mono hB.size)
    go_wp2
    go_ret
    exact ⟨rfl, hB⟩

end Go.Proofs.Ytafcjdcmbklfkaa

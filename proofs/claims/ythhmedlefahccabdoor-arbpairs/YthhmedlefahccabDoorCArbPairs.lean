/-
  ArbPairs answers true for every input, and leaves its arguments as they were; the package's table of bounds is tied to the program's text. No condition.
-/
import Derived.Test.YthhmedlefahccabDoorK13
import Derived.Test.YthhmedlefahccabDoorK9
import Derived.Test.YthhmedlefahccabDoorTie
import Derived.Test.YthhmedlefahccabDoorCards
/-
  ArbPairs' walk.
-/
namespace Go.Proofs.YthhmedlefahccabDoor
open Go.RowKit Plait
set_option maxRecDepth 100000
set_option linter.unusedVariables false
set_option linter.unusedSimpArgs false

theorem pair_frame {d : Cf} (hd : d.Ok) (hp : d.P.length = 1) (R v : Int) (r0 : 0 ≤ R) (r1 : R < 65536) (v0 : 0 ≤ v) (v1 : v < 256) : (⟨3, R, d.N, ⟨2, v⟩, []⟩ : Fr).Ok d := by
  have n6 := hd.n6
  refine ⟨by show 0 ≤ d.N; omega, by show d.N < slotsI d; unfold slotsI; omega, r0, r1, by show (1 : Int) ≤ 3; omega, by show (3 : Int) ≤ 3; omega, .inl rfl, ?_, .inl rfl, ?_, by simp⟩
  · show itemB ⟨2, v⟩ true = true
    unfold itemB
    simp
    omega
  · show ((0 : Nat) : Int) = echoI d 3 d.N
    unfold echoI
    rw [if_neg (by omega)]; rfl

theorem pairs0 {d : Cf} {r : Int} {x : Fr} (hd : d.Ok) (hx : x.Ok d) (hR : x.R = wireI d r) (hS : x.S = d.N) : takeA d r d.N ⟨textF x, [], textF x, 1⟩ zeroSd = (x, true) := by
  have h1 : compA d r d.N ⟨textF x, [], textF x, 1⟩ = (x, true) := by rw [compA_is (by unfold compB; simp)]; exact rightA_text hd hx hR hS
  have h2 : compA d r d.N zeroSd = (zeroF, false) := compA_not (by unfold compB; simp [zeroSd])
  unfold takeA
  rw [h1, h2]
  simp
theorem pairs1 {d : Cf} {r : Int} {x : Fr} (hd : d.Ok) (hx : x.Ok d) : takeA d r d.N ⟨textF x, [], (textF x).take 9, 1⟩ zeroSd = (zeroF, false) := by
  have h1 : compA d r d.N ⟨textF x, [], (textF x).take 9, 1⟩ = (zeroF, false) := by
    rw [compA_is (by unfold compB; simp)]
    exact rightA_cut d r d.N x 9 (by rw [textF_length]; omega)
  have h2 : compA d r d.N zeroSd = (zeroF, false) := compA_not (by unfold compB; simp [zeroSd])
  unfold takeA
  rw [h1, h2]
  simp
theorem pairs2 {d : Cf} {r : Int} {x : Fr} (hd : d.Ok) (hx : x.Ok d) (hR : x.R = wireI d r) (hS : x.S = d.N) : takeA d r d.N ⟨textF x, [], [], 1⟩ ⟨[], [], textF x, 4⟩ = (x, true) := by
  have h1 : compA d r d.N ⟨textF x, [], [], 1⟩ = (zeroF, false) := by
    rw [compA_is (by unfold compB; simp)]
    exact rightA_nil d r d.N
  have h2 : compA d r d.N ⟨[], [], textF x, 4⟩ = (x, true) := by rw [compA_is (by unfold compB; simp)]; exact rightA_text hd hx hR hS
  unfold takeA
  rw [h1, h2]
  simp

/-- The four cells of a side laid anew. -/
def _root_.Go.World.set4 (w : World) (g : Nat) (u0 u1 u2 u3 : Value) : World := (((w.setCell ⟨g, 0, none⟩ u0).setCell ⟨g, 1, none⟩ u1).setCell ⟨g, 2, none⟩ u2).setCell ⟨g, 3, none⟩ u3
theorem blk_set4 {W : World} {g : Nat} {t : TypeId} {v0 v1 v2 v3 : Value} (h : Blk W g t #[v0, v1, v2, v3]) (u0 u1 u2 u3 : Value) : Blk (W.set4 g u0 u1 u2 u3) g t #[u0, u1, u2, u3] := by
  have k0 : Blk (W.setCell ⟨g, 0, none⟩ u0) g t #[u0, v1, v2, v3] := h.set 0 u0
  have k1 : Blk ((W.setCell ⟨g, 0, none⟩ u0).setCell ⟨g, 1, none⟩ u1) g t #[u0, u1, v2, v3] := k0.set 1 u1
  have k2 : Blk (((W.setCell ⟨g, 0, none⟩ u0).setCell ⟨g, 1, none⟩ u1).setCell ⟨g, 2, none⟩ u2) g t #[u0, u1, u2, v3] := k1.set 2 u2
  exact k2.set 3 u3
theorem blk_far4 {W : World} {g g2 : Nat} {t : TypeId} {cs : Array Value} (h : Blk W g t cs) (hne : g ≠ g2) (u0 u1 u2 u3 : Value) : Blk (W.set4 g2 u0 u1 u2 u3) g t cs :=
  (((h.far (p := ⟨g2, 0, none⟩) hne u0).far (p := ⟨g2, 1, none⟩) hne u1).far (p := ⟨g2, 2, none⟩) hne u2).far (p := ⟨g2, 3, none⟩) hne u3
theorem row_far4 {W : World} {a : Option Addr} {zs : List Int} (h : Row W a zs) (g : Nat) (hne : zs = [] ∨ ∀ x, a = some x → x.block ≠ g) (u0 u1 u2 u3 : Value) : Row (W.set4 g u0 u1 u2 u3) a zs :=
  (((h.farR g 0 u0 hne).farR g 1 u1 hne).farR g 2 u2 hne).farR g 3 u3 hne
theorem below_set4 {B g : Nat} {w wr : World} (hB : Below B w wr) (hg : B ≤ g) (u0 u1 u2 u3 : Value) : Below B w (wr.set4 g u0 u1 u2 u3) :=
  (((hB.setCell (p := ⟨g, 0, none⟩) hg u0).setCell (p := ⟨g, 1, none⟩) hg u1).setCell (p := ⟨g, 2, none⟩) hg u2).setCell (p := ⟨g, 3, none⟩) hg u3


set_option maxHeartbeats 3200000 in
theorem arbPairs_walk (c : Cf) (a : Option Addr) (cap : Nat) (v rd wh : Int) (w : World) (hbd : Bnds w) (hrow : Row w a c.P) (iN : inI c.N) (iP : inI c.Pi) (iE : inI c.E) (iG : inI c.G) (iF : inI c.F)
    (v1 : -9223372036854775808 ≤ v) (v2 : v ≤ 9223372036854775807) (r1 : -9223372036854775808 ≤ rd) (r2 : rd ≤ 9223372036854775807) (o1 : -9223372036854775808 ≤ wh) (o2 : wh ≤ 9223372036854775807) :
    Calls Tryd.prog 6 #[.agg #[.int .i64 c.N, .int .i64 c.Pi, .int .i64 c.E, .int .i64 c.G, .int .i64 c.F, .slice a c.P.length cap], .int .i64 v, .int .i64 rd, .int .i64 wh] w fun e w' => e = .returned (.bool true) ∧ Below w.heap.size w w' := by
  have hB : Below w.heap.size w (w.alloc (.cells #[.int .i64 c.N, .int .i64 c.Pi, .int .i64 c.E, .int .i64 c.G, .int .i64 c.F, .slice a c.P.length cap] 24)) := alloc_below w _
  have hC : Blk (w.alloc (.cells #[.int .i64 c.N, .int .i64 c.Pi, .int .i64 c.E, .int .i64 c.G, .int .i64 c.F, .slice a c.P.length cap] 24)) w.heap.size 24 (confBox c a cap) := Blk.new w _ _
  go_enter Tryd.func6, Tryd.ntmps6
  go_upto_region 1 with fail
  generalize w.alloc (.cells #[.int .i64 c.N, .int .i64 c.Pi, .int .i64 c.E, .int .i64 c.G, .int .i64 c.F, .slice a c.P.length cap] 24) = w1 at *
  go_wp2_with fail
  refine (known10_any _ (hbd.later hB)).mono ?_
  rintro e w2 ⟨rfl, hb⟩
  replace hB := hB.trans (hb.mono hB.size)
  replace hC := hC.later hb
  clear hb
  have fC := hC.frozen
  have hlc := hC.lt
  have fC3 := (hC.alloc (.cells #[.int .i64 2] 3)).frozen
  have qC := hC.at
  unfold confBox at qC
  go_upto_region 4 with fail
  clear fC fC3 qC
  replace hB := hB.setCell (p := ⟨w.heap.size, 5, none⟩) (Nat.le_refl _) (.slice (some ⟨w2.heap.size, 0, none⟩) 1 1)
  have hC2 : Blk (w2.setCell ⟨w.heap.size, 5, none⟩ (.slice (some ⟨w2.heap.size, 0, none⟩) 1 1)) w.heap.size 24 (confBox { c with P := [2] } (some ⟨w2.heap.size, 0, none⟩) 1) := hC.set 5 _
  have hes : (w2.setCell ⟨w.heap.size, 5, none⟩ (.slice (some ⟨w2.heap.size, 0, none⟩) 1 1)).heap.size = w2.heap.size := by simp [World.setCell]
  have hP := Row.made (w2.setCell ⟨w.heap.size, 5, none⟩ (.slice (some ⟨w2.heap.size, 0, none⟩) 1 1)) [2] 3 (by decide) (by decide)
  rw [hes] at hP
  have hb := alloc_below (w2.setCell ⟨w.heap.size, 5, none⟩ (.slice (some ⟨w2.heap.size, 0, none⟩) 1 1)) (.cells #[.int .i64 2] 3)
  replace hB := hB.trans (hb.mono hB.size)
  replace hC2 := hC2.later hb
  clear hC hb hes hlc
  replace hP : Row ((w2.setCell ⟨w.heap.size, 5, none⟩ (.slice (some ⟨w2.heap.size, 0, none⟩) 1 1)).alloc (.cells #[.int .i64 2] 3)) (some ⟨w2.heap.size, 0, none⟩) [2] := hP
  generalize (w2.setCell ⟨w.heap.size, 5, none⟩ (.slice (some ⟨w2.heap.size, 0, none⟩) 1 1)).alloc (.cells #[.int .i64 2] 3) = w3 at *
  generalize w2.heap.size = pb at *
  obtain ⟨c2, hc2⟩ : ∃ c2 : Cf, c2 = { c with P := [2] } := ⟨_, rfl⟩
  have HMK := Lib.hid (fun W (h : Row W (some ⟨pb, 0, none⟩) [2]) => show Calls Tryd.prog 10 #[.agg #[.int .i64 c.N, .int .i64 c.Pi, .int .i64 c.E, .int .i64 c.G, .int .i64 c.F, .slice (some ⟨pb, 0, none⟩) 1 1]] W (ConfRet (makeC c2) W) from by subst hc2; exact make_any { c with P := [2] } (some ⟨pb, 0, none⟩) 1 W h)
  have hd1 : (makeC c2).P.length = 1 := by subst hc2; rfl
  have qC : ∀ i, w3.cell? ⟨w.heap.size, i, none⟩ = (#[.int .i64 c.N, .int .i64 c.Pi, .int .i64 c.E, .int .i64 c.G, .int .i64 c.F, .slice (some ⟨pb, 0, none⟩) 1 1] : Array Value)[i]? := hC2.at
  clear hC2 hc2
  go_wp2_with fail
  refine (HMK.out _ hP).mono ?_
  rintro e wm ⟨da, dc, rfl, hrd, hfd, hb⟩
  replace hB := hB.trans (hb.mono hB.size)
  clear hb qC hfd HMK hP
  have hok := makeC_ok c2
  generalize makeC c2 = d at *
  have HP1 := Lib.hid hd1
  clear hd1
  have hD : Blk (wm.alloc (.cells #[.int .i64 d.N, .int .i64 d.Pi, .int .i64 d.E, .int .i64 d.G, .int .i64 d.F, .slice da d.P.length dc] 24)) wm.heap.size 24 (confBox d da dc) := Blk.new wm _ _
  replace hB := hB.alloc hB.size (.cells #[.int .i64 d.N, .int .i64 d.Pi, .int .i64 d.E, .int .i64 d.G, .int .i64 d.F, .slice da d.P.length dc] 24)
  replace hrd := hrd.alloc (.cells #[.int .i64 d.N, .int .i64 d.Pi, .int .i64 d.E, .int .i64 d.G, .int .i64 d.F, .slice da d.P.length dc] 24)
  go_upto_region 5 with fail
  generalize wm.alloc (.cells #[.int .i64 d.N, .int .i64 d.Pi, .int .i64 d.E, .int .i64 d.G, .int .i64 d.F, .slice da d.P.length dc] 24) = wn at *
  generalize wm.heap.size = db at *
  go_wp2_with fail
  refine (within10_any rd 100 _ (by omega) (by omega)).mono ?_
  rintro e wl ⟨rfl, rfl⟩
  have x0 := Int.emod_nonneg rd (show (100 : Int) ≠ 0 by omega)
  have x1 := Int.emod_lt_of_pos rd (show (0 : Int) < 100 by omega)
  generalize rd % 100 = r at *
  have HWi := Lib.hid (fun W => rwire_any d da dc r W hok (by omega) (by omega))
  have HWv := Lib.hid (fun W => within10_any v 256 W (by omega) (by omega))
  obtain ⟨R0, R1⟩ := wireI_range d r
  have y0 := Int.emod_nonneg v (show (256 : Int) ≠ 0 by omega)
  have y1 := Int.emod_lt_of_pos v (show (0 : Int) < 256 by omega)
  have hokx := pair_frame hok HP1.out (wireI d r) (v % 256) R0 R1 y0 y1
  have HRw := Lib.hid (show wireI d r = wireI d r from rfl)
  obtain ⟨fx, hfx⟩ : ∃ fx : Fr, fx = ⟨3, wireI d r, d.N, ⟨2, v % 256⟩, []⟩ := ⟨_, rfl⟩
  rw [← hfx] at hokx
  have hxR : fx.R = wireI d r := by subst hfx; rfl
  have hxS : fx.S = d.N := by subst hfx; rfl
  have hxl : (textF fx).length ≤ 1048576 := by
    have h1 := textF_length fx
    have h2 := (ok_small hok hokx).2.2.2.2.2
    omega
  have h9 : 9 ≤ (textF fx).length := by rw [textF_length]; omega
  have HPk := Lib.hid (fun (A B : Sd) (p : Fr × Bool) (hp : takeA d r d.N A B = p) (h1 : A.O.length ≤ 1048576) (h2 : B.O.length ≤ 1048576) (h3 : A.D.length ≤ 1048576) (h4 : B.D.length ≤ 1048576) (W : World) (hb : Bnds W) (hr : Row W da d.P) => show Calls Tryd.prog 21 #[.agg #[.int .i64 d.N, .int .i64 d.Pi, .int .i64 d.E, .int .i64 d.G, .int .i64 d.F, .slice da d.P.length dc], .int .i64 r, .int .i64 d.N, .agg #[.string ⟨A.D.toArray⟩, .string ⟨A.S.toArray⟩, .string ⟨A.O.toArray⟩, .int .i64 A.F], .agg #[.string ⟨B.D.toArray⟩, .string ⟨B.S.toArray⟩, .string ⟨B.O.toArray⟩, .int .i64 B.F]] W (RightRet p W) from hp ▸ aPick_any d da dc r d.N A B W hb hok hr (by omega) (by omega) h1 h2 h3 h4)
  have HT0 := Lib.hid (pairs0 hok hokx hxR hxS)
  have HT1 := Lib.hid (pairs1 (r := r) hok hokx)
  have HT2 := Lib.hid (pairs2 hok hokx hxR hxS)
  have HTx := Lib.hid (fun W => show Calls Tryd.prog 14 #[.agg #[.int .i64 d.N, .int .i64 d.Pi, .int .i64 d.E, .int .i64 d.G, .int .i64 d.F, .slice da d.P.length dc], .agg #[.int .i64 3, .int .i64 (wireI d r), .int .i64 d.N, .int .i64 2, .int .i64 (v % 256), .slice none 0 0]] W (fun e w' => e = .returned (.string ⟨(textF fx).toArray⟩) ∧ Below W.heap.size W w') from by have h := rText_ok d da dc fx none 0 W hok hokx (by subst hfx; exact RowT.empty _ _); subst hfx; exact h)
  have HSm := Lib.hid (fun W (aa : Option Addr) (ac : Nat) (h1 : RowT W aa fx.E) => show Calls Tryd.prog 20 #[.agg #[.int .i64 fx.K, .int .i64 fx.R, .int .i64 fx.S, .int .i64 fx.P.K, .int .i64 fx.P.V, .slice aa fx.E.length ac], .agg #[.int .i64 3, .int .i64 (wireI d r), .int .i64 d.N, .int .i64 2, .int .i64 (v % 256), .slice none 0 0]] W (fun e w' => e = .returned (.bool (decide (fx = fx))) ∧ Below W.heap.size W w') from by have h := rSame5_any fx fx aa none ac 0 W h1 (by subst hfx; exact RowT.empty _ _); subst hfx; exact h)
  have HRO := Lib.hid HRw
  clear hxR hxS hfx HRw HRO hokx
  generalize textF fx = t at *
  generalize wireI d r = R at *
  generalize v % 256 = y at *
  go_upto_region 6 with fail
  refine region_slots [some 25, some 26, some 27, some 28, some 29, some 30, some 31, some 32, some 33, some 11, none] [none, none, none, none, none, none, none, none, none, none, some 9] 78 11 rfl (by kernel_rfl) (by kernel_rfl) rfl rfl ?_
  apply step_fix
  · intro a W Zs hS hFm hz hd
    have h9 := hFm.old 9 rfl
    conv at h9 => rhs; whnf
    replace h9 := ev_get hFm.size h9
    have hq := (hD.drew1.later hS).at
    unfold confBox at hq
    refine .inl ⟨wanted_none rfl _, fun K hK => ?_⟩
    have HK := Lib.hid hK
    clear hd hFm hK
    go_simp
    exact HK.out _ _ rfl (Below.refl _ _)
  simp only [List.nil_append, List.cons_append]
  apply step_fix
  · intro a W Zs hS hFm hz hd
    have h10 := hFm.old 10 rfl
    conv at h10 => rhs; whnf
    replace h10 := ev_get hFm.size h10
    refine .inl ⟨wanted_none rfl _, fun K hK => ?_⟩
    have HK := Lib.hid hK
    clear hd hFm hK
    go_simp
    exact HK.out _ _ rfl (Below.refl _ _)
  simp only [List.nil_append, List.cons_append]
  apply step_fix
  · intro a W Zs hS hFm hz hd
    have h25 := ev_get hFm.size (hd 0 25 rfl rfl)
    have h26 := ev_get hFm.size (hd 1 26 rfl rfl)
    refine .inl ⟨wanted_none rfl _, fun K hK => ?_⟩
    have HK := Lib.hid hK
    clear hd hFm hK
    go_simp
    refine (HWi.out _).mono ?_
    rintro e W' ⟨rfl, hb⟩
    exact HK.out _ _ rfl hb
  simp only [List.nil_append, List.cons_append]
  apply step_fix
  · intro a W Zs hS hFm hz hd
    have h9 := hFm.old 9 rfl
    conv at h9 => rhs; whnf
    replace h9 := ev_get hFm.size h9
    refine .inl ⟨wanted_none rfl _, fun K hK => ?_⟩
    have HK := Lib.hid hK
    clear hd hFm hK
    go_simp
    exact HK.out _ _ rfl (Below.refl _ _)
  simp only [List.nil_append, List.cons_append]
  apply step_fix
  · intro a W Zs hS hFm hz hd
    have h28 := ev_get hFm.size (hd 3 28 rfl rfl)
    have hq := (hD.drew1.later hS).at
    unfold confBox at hq
    refine .inl ⟨wanted_none rfl _, fun K hK => ?_⟩
    have HK := Lib.hid hK
    clear hd hFm hK
    go_simp
    exact HK.out _ _ rfl (Below.refl _ _)
  simp only [List.nil_append, List.cons_append]
  apply step_fix
  · intro a W Zs hS hFm hz hd
    have h1 := hFm.old 1 rfl
    conv at h1 => rhs; whnf
    replace h1 := ev_get hFm.size h1
    refine .inl ⟨wanted_none rfl _, fun K hK => ?_⟩
    have HK := Lib.hid hK
    clear hd hFm hK
    go_simp
    exact HK.out _ _ rfl (Below.refl _ _)
  simp only [List.nil_append, List.cons_append]
  apply step_fix
  · intro a W Zs hS hFm hz hd
    have h30 := ev_get hFm.size (hd 5 30 rfl rfl)
    refine .inl ⟨wanted_none rfl _, fun K hK => ?_⟩
    have HK := Lib.hid hK
    clear hd hFm hK
    go_simp
    refine (HWv.out _).mono ?_
    rintro e W' ⟨rfl, rfl⟩
    exact HK.out _ _ rfl (Below.refl _ _)
  simp only [List.nil_append, List.cons_append]
  apply step_fix
  · intro a W Zs hS hFm hz hd
    have h31 := ev_get hFm.size (hd 6 31 rfl rfl)
    refine .inl ⟨wanted_none rfl _, fun K hK => ?_⟩
    have HK := Lib.hid hK
    clear hd hFm hK
    go_simp
    exact HK.out _ _ rfl (Below.refl _ _)
  simp only [List.nil_append, List.cons_append]
  apply step_fix
  · intro a W Zs hS hFm hz hd
    have h27 := ev_get hFm.size (hd 2 27 rfl rfl)
    have h29 := ev_get hFm.size (hd 4 29 rfl rfl)
    have h32 := ev_get hFm.size (hd 7 32 rfl rfl)
    refine .inl ⟨wanted_none rfl _, fun K hK => ?_⟩
    have HK := Lib.hid hK
    clear hd hFm hK
    go_simp
    exact HK.out _ _ rfl (Below.refl _ _)
  simp only [List.nil_append, List.cons_append]
  refine step_of (boxF _ 29 6) (boxF_good _ _ _) ?_ ?_
  · intro a W Zs hS hFm hz hd
    refine .inl ⟨wanted_none rfl _, fun K hK => ?_⟩
    have HK := Lib.hid hK
    clear hd hFm hK
    go_simp
    exact HK.out _ _ ⟨_, _, rfl, rfl, Blk.new _ _ _, .inl ⟨Nat.le_refl _, by simp⟩⟩ (alloc_below _ _)
  simp only [List.nil_append, List.cons_append]
  apply step_lit
  · intro a W Zs hS hFm hz hd hap
    obtain ⟨b11, cs11, e11, n11, q11, z11⟩ := hd 9 11 rfl rfl
    have h11 := ev_get hFm.size e11
    have h33 := ev_get hFm.size (hd 8 33 rfl rfl)
    have hB0 := (hz 9 _ rfl z11).1
    obtain ⟨u0, u1, u2, u3, u4, u5, rfl⟩ := arr6 n11
    have hq := q11.at
    have hfz := q11.frozen
    refine ⟨wanted_none rfl _, b11, z11, fun K hK => ?_⟩
    have HK := Lib.hid hK
    clear hd hFm hK
    go_simp
    exact HK.out undef _ (Only.fill6 _ _ _ _ _ _ _ _) (fun d hd' => by injection hd' with hd'; subst hd'; exact ⟨⟨b11, e11, q11.fill6 _ _ _ _ _ _, .inr (.inl rfl)⟩, ⟨b11, _, e11, rfl, q11.fill6 _ _ _ _ _ _, z11⟩⟩)
  simp only [List.nil_append, List.cons_append]
  intro a w5 Zs hS hFm hz hd
  obtain ⟨b11, e11, q11, f11⟩ := hd 10 11 (by decide) rfl
  obtain ⟨bz, csz, ez, nz, qz, zz⟩ := hd 9 11 (by decide) rfl
  have nb11 := ptr_new ez e11 (hz 9 (by decide) bz zz)
  clear zz qz nz ez
  clear csz bz
  have e0 := hFm.old 0 rfl
  conv at e0 => rhs; whnf
  have e1 := hFm.old 1 rfl
  conv at e1 => rhs; whnf
  have e2 := hFm.old 2 rfl
  conv at e2 => rhs; whnf
  have e3 := hFm.old 3 rfl
  conv at e3 => rhs; whnf
  have e4 := hFm.old 4 rfl
  conv at e4 => rhs; whnf
  have e5 := hFm.old 5 rfl
  conv at e5 => rhs; whnf
  have e6 := hFm.old 6 rfl
  conv at e6 => rhs; whnf
  have e7 := hFm.old 7 rfl
  conv at e7 => rhs; whnf
  have e8 := hFm.old 8 rfl
  conv at e8 => rhs; whnf
  have e9 := hFm.old 9 rfl
  conv at e9 => rhs; whnf
  have e10 := hFm.old 10 rfl
  conv at e10 => rhs; whnf
  have e12 := hFm.old 12 rfl
  conv at e12 => rhs; whnf
  have e13 := hFm.old 13 rfl
  conv at e13 => rhs; whnf
  have e14 := hFm.old 14 rfl
  conv at e14 => rhs; whnf
  have e15 := hFm.old 15 rfl
  conv at e15 => rhs; whnf
  have e16 := hFm.old 16 rfl
  conv at e16 => rhs; whnf
  have e17 := hFm.old 17 rfl
  conv at e17 => rhs; whnf
  have e18 := hFm.old 18 rfl
  conv at e18 => rhs; whnf
  have e19 := hFm.old 19 rfl
  conv at e19 => rhs; whnf
  have e20 := hFm.old 20 rfl
  conv at e20 => rhs; whnf
  have e21 := hFm.old 21 rfl
  conv at e21 => rhs; whnf
  have e22 := hFm.old 22 rfl
  conv at e22 => rhs; whnf
  have e23 := hFm.old 23 rfl
  conv at e23 => rhs; whnf
  have e24 := hFm.old 24 rfl
  conv at e24 => rhs; whnf
  have e34 := hFm.old 34 rfl
  conv at e34 => rhs; whnf
  have e35 := hFm.old 35 rfl
  conv at e35 => rhs; whnf
  have e36 := hFm.old 36 rfl
  conv at e36 => rhs; whnf
  have e37 := hFm.old 37 rfl
  conv at e37 => rhs; whnf
  have e38 := hFm.old 38 rfl
  conv at e38 => rhs; whnf
  have e39 := hFm.old 39 rfl
  conv at e39 => rhs; whnf
  have e40 := hFm.old 40 rfl
  conv at e40 => rhs; whnf
  have e41 := hFm.old 41 rfl
  conv at e41 => rhs; whnf
  have e42 := hFm.old 42 rfl
  conv at e42 => rhs; whnf
  have e43 := hFm.old 43 rfl
  conv at e43 => rhs; whnf
  have e44 := hFm.old 44 rfl
  conv at e44 => rhs; whnf
  have e45 := hFm.old 45 rfl
  conv at e45 => rhs; whnf
  have e46 := hFm.old 46 rfl
  conv at e46 => rhs; whnf
  have e47 := hFm.old 47 rfl
  conv at e47 => rhs; whnf
  have e48 := hFm.old 48 rfl
  conv at e48 => rhs; whnf
  have e49 := hFm.old 49 rfl
  conv at e49 => rhs; whnf
  have e50 := hFm.old 50 rfl
  conv at e50 => rhs; whnf
  have e51 := hFm.old 51 rfl
  conv at e51 => rhs; whnf
  have e52 := hFm.old 52 rfl
  conv at e52 => rhs; whnf
  have e53 := hFm.old 53 rfl
  conv at e53 => rhs; whnf
  have e54 := hFm.old 54 rfl
  conv at e54 => rhs; whnf
  have e55 := hFm.old 55 rfl
  conv at e55 => rhs; whnf
  have e56 := hFm.old 56 rfl
  conv at e56 => rhs; whnf
  have e57 := hFm.old 57 rfl
  conv at e57 => rhs; whnf
  have e58 := hFm.old 58 rfl
  conv at e58 => rhs; whnf
  have e59 := hFm.old 59 rfl
  conv at e59 => rhs; whnf
  have e60 := hFm.old 60 rfl
  conv at e60 => rhs; whnf
  have e61 := hFm.old 61 rfl
  conv at e61 => rhs; whnf
  have e62 := hFm.old 62 rfl
  conv at e62 => rhs; whnf
  have e63 := hFm.old 63 rfl
  conv at e63 => rhs; whnf
  have e64 := hFm.old 64 rfl
  conv at e64 => rhs; whnf
  have e65 := hFm.old 65 rfl
  conv at e65 => rhs; whnf
  have e66 := hFm.old 66 rfl
  conv at e66 => rhs; whnf
  have e67 := hFm.old 67 rfl
  conv at e67 => rhs; whnf
  have e68 := hFm.old 68 rfl
  conv at e68 => rhs; whnf
  have e69 := hFm.old 69 rfl
  conv at e69 => rhs; whnf
  have e70 := hFm.old 70 rfl
  conv at e70 => rhs; whnf
  have e71 := hFm.old 71 rfl
  conv at e71 => rhs; whnf
  have e72 := hFm.old 72 rfl
  conv at e72 => rhs; whnf
  have e73 := hFm.old 73 rfl
  conv at e73 => rhs; whnf
  have e74 := hFm.old 74 rfl
  conv at e74 => rhs; whnf
  have e75 := hFm.old 75 rfl
  conv at e75 => rhs; whnf
  have e76 := hFm.old 76 rfl
  conv at e76 => rhs; whnf
  have e77 := hFm.old 77 rfl
  conv at e77 => rhs; whnf
  have hsz := hFm.size
  have hdf := hFm.defers
  clear hd hFm
  obtain ⟨t, df⟩ := a
  simp only at hsz hdf
  subst hdf
  obtain ⟨x, hx⟩ : ∃ x : Nat → Value, ∀ i, t.getD i undef = x i := ⟨fun i => t.getD i undef, fun _ => rfl⟩
  have h11 := (hx 11).symm.trans e11
  have h0 := (hx 0).symm.trans e0
  have h1 := (hx 1).symm.trans e1
  have h2 := (hx 2).symm.trans e2
  have h3 := (hx 3).symm.trans e3
  have h4 := (hx 4).symm.trans e4
  have h5 := (hx 5).symm.trans e5
  have h6 := (hx 6).symm.trans e6
  have h7 := (hx 7).symm.trans e7
  have h8 := (hx 8).symm.trans e8
  have h9 := (hx 9).symm.trans e9
  have h10 := (hx 10).symm.trans e10
  have h12 := (hx 12).symm.trans e12
  have h13 := (hx 13).symm.trans e13
  have h14 := (hx 14).symm.trans e14
  have h15 := (hx 15).symm.trans e15
  have h16 := (hx 16).symm.trans e16
  have h17 := (hx 17).symm.trans e17
  have h18 := (hx 18).symm.trans e18
  have h19 := (hx 19).symm.trans e19
  have h20 := (hx 20).symm.trans e20
  have h21 := (hx 21).symm.trans e21
  have h22 := (hx 22).symm.trans e22
  have h23 := (hx 23).symm.trans e23
  have h24 := (hx 24).symm.trans e24
  have h34 := (hx 34).symm.trans e34
  have h35 := (hx 35).symm.trans e35
  have h36 := (hx 36).symm.trans e36
  have h37 := (hx 37).symm.trans e37
  have h38 := (hx 38).symm.trans e38
  have h39 := (hx 39).symm.trans e39
  have h40 := (hx 40).symm.trans e40
  have h41 := (hx 41).symm.trans e41
  have h42 := (hx 42).symm.trans e42
  have h43 := (hx 43).symm.trans e43
  have h44 := (hx 44).symm.trans e44
  have h45 := (hx 45).symm.trans e45
  have h46 := (hx 46).symm.trans e46
  have h47 := (hx 47).symm.trans e47
  have h48 := (hx 48).symm.trans e48
  have h49 := (hx 49).symm.trans e49
  have h50 := (hx 50).symm.trans e50
  have h51 := (hx 51).symm.trans e51
  have h52 := (hx 52).symm.trans e52
  have h53 := (hx 53).symm.trans e53
  have h54 := (hx 54).symm.trans e54
  have h55 := (hx 55).symm.trans e55
  have h56 := (hx 56).symm.trans e56
  have h57 := (hx 57).symm.trans e57
  have h58 := (hx 58).symm.trans e58
  have h59 := (hx 59).symm.trans e59
  have h60 := (hx 60).symm.trans e60
  have h61 := (hx 61).symm.trans e61
  have h62 := (hx 62).symm.trans e62
  have h63 := (hx 63).symm.trans e63
  have h64 := (hx 64).symm.trans e64
  have h65 := (hx 65).symm.trans e65
  have h66 := (hx 66).symm.trans e66
  have h67 := (hx 67).symm.trans e67
  have h68 := (hx 68).symm.trans e68
  have h69 := (hx 69).symm.trans e69
  have h70 := (hx 70).symm.trans e70
  have h71 := (hx 71).symm.trans e71
  have h72 := (hx 72).symm.trans e72
  have h73 := (hx 73).symm.trans e73
  have h74 := (hx 74).symm.trans e74
  have h75 := (hx 75).symm.trans e75
  have h76 := (hx 76).symm.trans e76
  have h77 := (hx 77).symm.trans e77
  have ht' : t = #[x 0, x 1, x 2, x 3, x 4, x 5, x 6, x 7, x 8, x 9, x 10, x 11, x 12, x 13, x 14, x 15, x 16, x 17, x 18, x 19, x 20, x 21, x 22, x 23, x 24, x 25, x 26, x 27, x 28, x 29, x 30, x 31, x 32, x 33, x 34, x 35, x 36, x 37, x 38, x 39, x 40, x 41, x 42, x 43, x 44, x 45, x 46, x 47, x 48, x 49, x 50, x 51, x 52, x 53, x 54, x 55, x 56, x 57, x 58, x 59, x 60, x 61, x 62, x 63, x 64, x 65, x 66, x 67, x 68, x 69, x 70, x 71, x 72, x 73, x 74, x 75, x 76, x 77] := frame_lit t 78 hsz x hx
  clear hx hsz hz e11 e0 e1 e2 e3 e4 e5 e6 e7 e8 e9 e10 e12 e13 e14 e15 e16 e17 e18 e19 e20 e21 e22 e23 e24 e34 e35 e36 e37 e38 e39 e40 e41 e42 e43 e44 e45 e46 e47 e48 e49 e50 e51 e52 e53 e54 e55 e56 e57 e58 e59 e60 e61 e62 e63 e64 e65 e66 e67 e68 e69 e70 e71 e72 e73 e74 e75 e76 e77
  subst ht'
  (try dsimp only)
  rw [h11, h0, h1, h2, h3, h4, h5, h6, h7, h8, h9, h10, h12, h13, h14, h15, h16, h17, h18, h19, h20, h21, h22, h23, h24, h34, h35, h36, h37, h38, h39, h40, h41, h42, h43, h44, h45, h46, h47, h48, h49, h50, h51, h52, h53, h54, h55, h56, h57, h58, h59, h60, h61, h62, h63, h64, h65, h66, h67, h68, h69, h70, h71, h72, h73, h74, h75, h76, h77]
  clear h11 h0 h1 h2 h3 h4 h5 h6 h7 h8 h9 h10 h12 h13 h14 h15 h16 h17 h18 h19 h20 h21 h22 h23 h24 h34 h35 h36 h37 h38 h39 h40 h41 h42 h43 h44 h45 h46 h47 h48 h49 h50 h51 h52 h53 h54 h55 h56 h57 h58 h59 h60 h61 h62 h63 h64 h65 h66 h67 h68 h69 h70 h71 h72 h73 h74 h75 h76 h77
  rw [undef_fold]
  have hb := from_drew hS
  replace hB := hB.trans (hb.mono hB.size)
  replace hD := hD.later hb
  replace hrd := hrd.later hb
  have hX := q11
  clear hb hS q11 f11 nb11 HWi HWv
  have qD := hD.at
  unfold confBox at qD
  have qX := hX.at
  go_wp2_with fail
  refine (HTx.out _).mono ?_
  rintro e w6 ⟨rfl, hb⟩
  replace hB := hB.trans (hb.mono hB.size)
  replace hD := hD.later hb
  replace hrd := hrd.later hb
  replace hX := hX.later hb
  clear hb qD qX HTx
  go_upto_region 9 with fail
  have hAb : Blk ((w6.alloc (.cells #[.string ⟨t.toArray⟩, .string ⟨#[]⟩, .string ⟨t.toArray⟩, .int .i64 1] 45)).alloc (.cells #[.string ⟨#[]⟩, .string ⟨#[]⟩, .string ⟨#[]⟩, .int .i64 0] 45)) w6.heap.size 45 #[.string ⟨t.toArray⟩, .string ⟨#[]⟩, .string ⟨t.toArray⟩, .int .i64 1] := (Blk.new w6 _ _).alloc _
  have hBb : Blk ((w6.alloc (.cells #[.string ⟨t.toArray⟩, .string ⟨#[]⟩, .string ⟨t.toArray⟩, .int .i64 1] 45)).alloc (.cells #[.string ⟨#[]⟩, .string ⟨#[]⟩, .string ⟨#[]⟩, .int .i64 0] 45)) (w6.heap.size + 1) 45 #[.string ⟨#[]⟩, .string ⟨#[]⟩, .string ⟨#[]⟩, .int .i64 0] := Blk.newAt _ _ (by simp)
  have hb : Below w6.heap.size w6 ((w6.alloc (.cells #[.string ⟨t.toArray⟩, .string ⟨#[]⟩, .string ⟨t.toArray⟩, .int .i64 1] 45)).alloc (.cells #[.string ⟨#[]⟩, .string ⟨#[]⟩, .string ⟨#[]⟩, .int .i64 0] 45)) := (alloc_below w6 _).alloc (by simp) _
  have hws := hB.size
  have hdl := hD.lt
  have hxl2 := hX.lt
  have hdn := hrd.ltR
  replace hB := hB.trans (hb.mono hB.size)
  replace hD := hD.later hb
  replace hrd := hrd.later hb
  replace hX := hX.later hb
  clear hb
  generalize (w6.alloc (.cells #[.string ⟨t.toArray⟩, .string ⟨#[]⟩, .string ⟨t.toArray⟩, .int .i64 1] 45)).alloc (.cells #[.string ⟨#[]⟩, .string ⟨#[]⟩, .string ⟨#[]⟩, .int .i64 0] 45) = w7 at *
  generalize w6.heap.size = ab at *
  have HWt := Lib.hid (fun W => within10_any wh 3 W (by omega) (by omega))
  have z0 := Int.emod_nonneg wh (show (3 : Int) ≠ 0 by omega)
  have z1 := Int.emod_lt_of_pos wh (show (0 : Int) < 3 by omega)
  generalize wh % 3 = z at *
  go_wp2_with fail
  refine (HWt.out _).mono ?_
  rintro e wl ⟨rfl, rfl⟩
  rcases (by omega : z = 0 ∨ z = 1 ∨ z = 2) with rfl | rfl | rfl
  · have HP0 := Lib.hid (fun (W : World) (hb : Bnds W) (hr : Row W da d.P) => show Calls Tryd.prog 21 #[.agg #[.int .i64 d.N, .int .i64 d.Pi, .int .i64 d.E, .int .i64 d.G, .int .i64 d.F, .slice da d.P.length dc], .int .i64 r, .int .i64 d.N, .agg #[.string ⟨t.toArray⟩, .string ⟨#[]⟩, .string ⟨t.toArray⟩, .int .i64 1], .agg #[.string ⟨#[]⟩, .string ⟨#[]⟩, .string ⟨#[]⟩, .int .i64 0]] W (RightRet (fx, true) W) from HPk.out ⟨t, [], t, 1⟩ zeroSd _ HT0.out hxl (by decide) hxl (by decide) W hb hr)
    clear HPk HT0 HT1 HT2 z0 z1
    have qD := hD.at
    unfold confBox at qD
    have qA := hAb.at
    have qB := hBb.at
    go_wp2_with fail
    refine (HP0.out _ (hbd.later hB) hrd).mono ?_
    rintro e w8 ⟨pa, pc, rfl, hrp, -, hb⟩
    replace hB := hB.trans (hb.mono hB.size)
    replace hX := hX.later hb
    clear hb qD qA qB
    go_upto_region 15 with fail
    have hb := alloc_below w8 (.cells #[.int .i64 fx.K, .int .i64 fx.R, .int .i64 fx.S, .int .i64 fx.P.K, .int .i64 fx.P.V, .slice pa fx.E.length pc] 29)
    have hPb : Blk (w8.alloc (.cells #[.int .i64 fx.K, .int .i64 fx.R, .int .i64 fx.S, .int .i64 fx.P.K, .int .i64 fx.P.V, .slice pa fx.E.length pc] 29)) w8.heap.size 29 (frBox fx pa pc) := Blk.new w8 _ _
    replace hB := hB.trans (hb.mono hB.size)
    replace hX := hX.later hb
    replace hrp := hrp.later hb
    clear hb
    generalize w8.alloc (.cells #[.int .i64 fx.K, .int .i64 fx.R, .int .i64 fx.S, .int .i64 fx.P.K, .int .i64 fx.P.V, .slice pa fx.E.length pc] 29) = w9 at *
    generalize w8.heap.size = eb at *
    have qX := hX.at
    have qP := hPb.at
    unfold frBox at qP
    go_wp2_with fail
    refine (HWt.out _).mono ?_
    rintro e wl ⟨rfl, rfl⟩
    go_wp2_with fail
    refine (HSm.out _ pa pc hrp).mono ?_
    rintro e w10 ⟨rfl, hb⟩
    have hB9 := hB.trans (hb.mono hB.size)
    go_wp2
    go_ret
    exact ⟨by simp, hB9⟩
  · have HP0 := Lib.hid (fun (W : World) (hb : Bnds W) (hr : Row W da d.P) => show Calls Tryd.prog 21 #[.agg #[.int .i64 d.N, .int .i64 d.Pi, .int .i64 d.E, .int .i64 d.G, .int .i64 d.F, .slice da d.P.length dc], .int .i64 r, .int .i64 d.N, .agg #[.string ⟨t.toArray⟩, .string ⟨#[]⟩, .string ⟨(t.take 9).toArray⟩, .int .i64 1], .agg #[.string ⟨#[]⟩, .string ⟨#[]⟩, .string ⟨#[]⟩, .int .i64 0]] W (RightRet (zeroF, false) W) from HPk.out ⟨t, [], t.take 9, 1⟩ zeroSd _ HT1.out (by show (t.take 9).length ≤ _; rw [List.length_take]; omega) (by decide) hxl (by decide) W hb hr)
    clear HPk HT0 HT1 HT2 z0 z1
    have h9' : (9 : Int) ≤ (t.length : Int) := by omega
    have fA := hAb.frozen
    have qA := hAb.at
    go_upto_region 14 with fail
    clear fA qA
    replace hB := hB.setCell (p := ⟨ab, 2, none⟩) hws (.string ⟨(t.take 9).toArray⟩)
    replace hD := hD.far (p := ⟨ab, 2, none⟩) (by show db ≠ ab; omega) (.string ⟨(t.take 9).toArray⟩)
    replace hrd := hrd.farR ab 2 (.string ⟨(t.take 9).toArray⟩) (hdn.imp id fun q y e => by have := q y e; omega)
    replace hX := hX.far (p := ⟨ab, 2, none⟩) (by show b11 ≠ ab; omega) (.string ⟨(t.take 9).toArray⟩)
    replace hBb := hBb.far (p := ⟨ab, 2, none⟩) (by show ab + 1 ≠ ab; omega) (.string ⟨(t.take 9).toArray⟩)
    replace hAb : Blk (w7.setCell ⟨ab, 2, none⟩ (.string ⟨(t.take 9).toArray⟩)) ab 45 #[.string ⟨t.toArray⟩, .string ⟨#[]⟩, .string ⟨(t.take 9).toArray⟩, .int .i64 1] := hAb.set 2 _
    generalize w7.setCell ⟨ab, 2, none⟩ (.string ⟨(t.take 9).toArray⟩) = w7 at *
    clear h9 h9'
    generalize t.take 9 = t9 at *
    have qD := hD.at
    unfold confBox at qD
    have qA := hAb.at
    have qB := hBb.at
    go_wp2_with fail
    refine (HP0.out _ (hbd.later hB) hrd).mono ?_
    rintro e w8 ⟨pa, pc, rfl, hrp, -, hb⟩
    replace hB := hB.trans (hb.mono hB.size)
    replace hX := hX.later hb
    clear hb qD qA qB
    go_upto_region 15 with fail
    have hb := alloc_below w8 (.cells #[.int .i64 zeroF.K, .int .i64 zeroF.R, .int .i64 zeroF.S, .int .i64 zeroF.P.K, .int .i64 zeroF.P.V, .slice pa zeroF.E.length pc] 29)
    have hPb : Blk (w8.alloc (.cells #[.int .i64 zeroF.K, .int .i64 zeroF.R, .int .i64 zeroF.S, .int .i64 zeroF.P.K, .int .i64 zeroF.P.V, .slice pa zeroF.E.length pc] 29)) w8.heap.size 29 (frBox zeroF pa pc) := Blk.new w8 _ _
    replace hB := hB.trans (hb.mono hB.size)
    replace hX := hX.later hb
    replace hrp := hrp.later hb
    clear hb
    generalize w8.alloc (.cells #[.int .i64 zeroF.K, .int .i64 zeroF.R, .int .i64 zeroF.S, .int .i64 zeroF.P.K, .int .i64 zeroF.P.V, .slice pa zeroF.E.length pc] 29) = w9 at *
    generalize w8.heap.size = eb at *
    have qX := hX.at
    have qP := hPb.at
    unfold frBox at qP
    go_wp2_with fail
    refine (HWt.out _).mono ?_
    rintro e wl ⟨rfl, rfl⟩
    go_wp2
    go_ret
    exact ⟨rfl, hB⟩
  · have HP0 := Lib.hid (fun (W : World) (hb : Bnds W) (hr : Row W da d.P) => show Calls Tryd.prog 21 #[.agg #[.int .i64 d.N, .int .i64 d.Pi, .int .i64 d.E, .int .i64 d.G, .int .i64 d.F, .slice da d.P.length dc], .int .i64 r, .int .i64 d.N, .agg #[.string ⟨t.toArray⟩, .string ⟨#[]⟩, .string ⟨#[]⟩, .int .i64 1], .agg #[.string ⟨#[]⟩, .string ⟨#[]⟩, .string ⟨t.toArray⟩, .int .i64 4]] W (RightRet (fx, true) W) from HPk.out ⟨t, [], [], 1⟩ ⟨[], [], t, 4⟩ _ HT2.out (by show ([] : List UInt8).length ≤ _; decide) hxl hxl (by show ([] : List UInt8).length ≤ _; decide) W hb hr)
    clear HPk HT0 HT1 HT2 z0 z1
    have fA := hAb.frozen
    have qA := hAb.at
    have fB := hBb.frozen
    have qB := hBb.at
    go_upto_region 14 with fail
    clear fA qA fB qB
    have e1 : Blk (w7.set4 ab (.string ⟨t.toArray⟩) (.string ⟨#[]⟩) (.string ⟨#[]⟩) (.int .i64 1)) ab 45 #[.string ⟨t.toArray⟩, .string ⟨#[]⟩, .string ⟨#[]⟩, .int .i64 1] := blk_set4 hAb _ _ _ _
    have e2 := blk_far4 hBb (show ab + 1 ≠ ab by omega) (.string ⟨t.toArray⟩) (.string ⟨#[]⟩) (.string ⟨#[]⟩) (.int .i64 1)
    have e3 := blk_set4 e2 (.string ⟨#[]⟩) (.string ⟨#[]⟩) (.string ⟨t.toArray⟩) (.int .i64 4)
    have e4 := blk_far4 e1 (show ab ≠ ab + 1 by omega) (.string ⟨#[]⟩) (.string ⟨#[]⟩) (.string ⟨t.toArray⟩) (.int .i64 4)
    have e5 := blk_far4 (blk_far4 hD (show db ≠ ab by omega) (.string ⟨t.toArray⟩) (.string ⟨#[]⟩) (.string ⟨#[]⟩) (.int .i64 1)) (show db ≠ ab + 1 by omega) (.string ⟨#[]⟩) (.string ⟨#[]⟩) (.string ⟨t.toArray⟩) (.int .i64 4)
    have e6 := blk_far4 (blk_far4 hX (show b11 ≠ ab by omega) (.string ⟨t.toArray⟩) (.string ⟨#[]⟩) (.string ⟨#[]⟩) (.int .i64 1)) (show b11 ≠ ab + 1 by omega) (.string ⟨#[]⟩) (.string ⟨#[]⟩) (.string ⟨t.toArray⟩) (.int .i64 4)
    have e7 := row_far4 (row_far4 hrd ab (hdn.imp id fun q y e => by have := q y e; omega) (.string ⟨t.toArray⟩) (.string ⟨#[]⟩) (.string ⟨#[]⟩) (.int .i64 1)) (ab + 1) (hdn.imp id fun q y e => by have := q y e; omega) (.string ⟨#[]⟩) (.string ⟨#[]⟩) (.string ⟨t.toArray⟩) (.int .i64 4)
    have e8 := below_set4 (below_set4 hB hws (.string ⟨t.toArray⟩) (.string ⟨#[]⟩) (.string ⟨#[]⟩) (.int .i64 1)) (show w.heap.size ≤ ab + 1 by omega) (.string ⟨#[]⟩) (.string ⟨#[]⟩) (.string ⟨t.toArray⟩) (.int .i64 4)
    clear hAb hBb hD hX hrd hB e1 e2
    unfold World.set4 at e3 e4 e5 e6 e7 e8
    generalize (((((((w7.setCell ⟨ab, 0, none⟩ (.string ⟨t.toArray⟩)).setCell ⟨ab, 1, none⟩ (.string ⟨#[]⟩)).setCell ⟨ab, 2, none⟩ (.string ⟨#[]⟩)).setCell ⟨ab, 3, none⟩ (.int .i64 1)).setCell ⟨ab + 1, 0, none⟩ (.string ⟨#[]⟩)).setCell ⟨ab + 1, 1, none⟩ (.string ⟨#[]⟩)).setCell ⟨ab + 1, 2, none⟩ (.string ⟨t.toArray⟩)).setCell ⟨ab + 1, 3, none⟩ (.int .i64 4) = w8 at *
    have hB := e8
    have hD := e5
    have hrd := e7
    have hX := e6
    have hAb := e4
    have hBb := e3
    clear e3 e4 e5 e6 e7 e8
    have qD := hD.at
    unfold confBox at qD
    have qA := hAb.at
    have qB := hBb.at
    go_wp2_with fail
    refine (HP0.out _ (hbd.later hB) hrd).mono ?_
    rintro e w8 ⟨pa, pc, rfl, hrp, -, hb⟩
    replace hB := hB.trans (hb.mono hB.size)
    replace hX := hX.later hb
    clear hb qD qA qB
    go_upto_region 15 with fail
    have hb := alloc_below w8 (.cells #[.int .i64 fx.K, .int .i64 fx.R, .int .i64 fx.S, .int .i64 fx.P.K, .int .i64 fx.P.V, .slice pa fx.E.length pc] 29)
    have hPb : Blk (w8.alloc (.cells #[.int .i64 fx.K, .int .i64 fx.R, .int .i64 fx.S, .int .i64 fx.P.K, .int .i64 fx.P.V, .slice pa fx.E.length pc] 29)) w8.heap.size 29 (frBox fx pa pc) := Blk.new w8 _ _
    replace hB := hB.trans (hb.mono hB.size)
    replace hX := hX.later hb
    replace hrp := hrp.later hb
    clear hb
    generalize w8.alloc (.cells #[.int .i64 fx.K, .int .i64 fx.R, .int .i64 fx.S, .int .i64 fx.P.K, .int .i64 fx.P.V, .slice pa fx.E.length pc] 29) = w9 at *
    generalize w8.heap.size = eb at *
    have qX := hX.at
    have qP := hPb.at
    unfold frBox at qP
    go_wp2_with fail
    refine (HWt.out _).mono ?_
    rintro e wl ⟨rfl, rfl⟩
    go_wp2_with fail
    refine (HSm.out _ pa pc hrp).mono ?_
    rintro e w10 ⟨rfl, hb⟩
    have hB9 := hB.trans (hb.mono hB.size)
    go_wp2
    go_ret
    exact ⟨by simp, hB9⟩

end Go.Proofs.YthhmedlefahccabDoor
namespace Go.Proofs.YthhmedlefahccabDoor
open Go.ChangeShapes Go.WideShapes Go.ChangeAt Go.RowKit Plait
set_option maxRecDepth 100000
open Go.ChangeMaps (open_string shut_string)
set_option linter.unusedVariables false

set_option maxRecDepth 100000 in
theorem arbPairs_lifted (os : Os) (started : os.Started) (H : Type) (enc : TypeId × Value → H) :
    ReturnsInHanded {} Tryd.checked os 6 .any (fun w args => (Rows.arbPairsSpec.pre enc Tryd.prog Tryd.f6 [] false w args ∧ laidMetH Tryd.prog laidV w) ∧ sizedMet enc Tryd.prog Tryd.f6 (OpenSpec.ofChange Rows.arbPairsSpec) false w args)
      (Rows.arbPairsSpec.post enc Tryd.prog Tryd.f6 false true false false) := by
  refine returnsInHanded_of_change_and (C := Tryd.checked) (X := fun w _ => laidMetH Tryd.prog laidV w) (fun _ _ _ hh h => h.of_heap hh) own started (by kernel_rfl) Tryd.func6
    (ChangeSpec.witness_shaped (enc := enc) (C := Tryd.checked) (os := os) (X := fun w _ => laidMetH Tryd.prog laidV w) false (World.doorLaid Tryd.prog 400 os) #[.agg #[.int .i64 0, .int .i64 0, .int .i64 0, .int .i64 0, .int .i64 0, .slice none 0 0], .int .i64 0, .int .i64 0, .int .i64 0] 8 rfl (World.shaped_of_RefB (by kernel_rfl) (by kernel_rfl)) (by kernel_rfl) (by kernel_rfl) (by kernel_rfl) (door_met os _)) ?_
  intro W base args ds gs before hval0 hW _ _ hL _
  have hval : ∀ (j : Nat) t v, Tryd.f6.params[j]? = some t → args[j]? = some v → Value.okWide Tryd.prog W .any base t v := hval0
  have hW' := hW
  obtain ⟨p, q, hA0, hV, rfl, hfz, hnd⟩ := hW
  have hA : DataW.TrodAll enc Tryd.prog W 0 (fun _ => true) true Tryd.f6.params.toList args.toList ds p := hA0
  rw [Tryd.params6] at hA hval
  obtain ⟨v0, vs0, d0, ds0, p0, q0, hargs, rfl, rfl, h0, r0⟩ := trodAll_cons hA
  obtain ⟨v1, vs1, d1, ds1, p1, q1, rfl, rfl, rfl, h1, r1⟩ := trodAll_cons r0
  obtain ⟨v2, vs2, d2, ds2, p2, q2, rfl, rfl, rfl, h2, r2⟩ := trodAll_cons r1
  obtain ⟨v3, vs3, d3, ds3, p3, q3, rfl, rfl, rfl, h3, r3⟩ := trodAll_cons r2
  obtain ⟨rfl, rfl, rfl⟩ := trodAll_nil r3
  obtain rfl : args = #[v0, v1, v2, v3] := by cases args; simp_all
  obtain ⟨rfl, rfl⟩ := trodVars_none hV
  have k0 := h0
  have lt0 : ∀ x ∈ p0, x.block < W.heap.size := by obtain ⟨m, hm⟩ := k0; exact DataW.trod_lt m _ _ _ hm
  obtain ⟨c0, a0, cap0, rfl, w0, i0a, i0b, i0c, i0d, i0e⟩ := open_conf (hval 0 24 v0 rfl rfl) h0
  obtain ⟨a1, rfl, rfl, rfl, w1⟩ := open_int Tryd.underlying3 (hval 1 3 v1 rfl rfl) h1
  obtain ⟨a2, rfl, rfl, rfl, w2⟩ := open_int Tryd.underlying3 (hval 2 3 v2 rfl rfl) h2
  obtain ⟨a3, rfl, rfl, rfl, w3⟩ := open_int Tryd.underlying3 (hval 3 3 v3 rfl rfl) h3
  clear hA0 hval0
  refine (arbPairs_walk c0 a0 cap0 a1 a2 a3 W (of_laid hL) w0 i0a i0b i0c i0d i0e (wf_lo w1) (wf_hi w1) (wf_lo w2) (wf_hi w2) (wf_lo w3) (wf_hi w3)).mono fun e W' ⟨he, bel⟩ => ?_
  subst he
  exact ⟨_, rfl, _, _, _, [], _, [], hW', trodAll_mk1 (shut_bool Tryd.underlying4 _), (trodAll_cons_mk (Below.trod laidOut (by kernel_rfl) (of_decide_eq_true (by kernel_rfl)) k0 bel lt0) (trodAll_cons_mk (shut_int Tryd.underlying3 w1) (trodAll_cons_mk (shut_int Tryd.underlying3 w2) (trodAll_cons_mk (shut_int Tryd.underlying3 w3) trodAll_mk0)))), rfl, bel.frame _, fun h => by cases h⟩

theorem arbPairs_over : Rows.arbPairsRow.holds Tryd.pinned (OpenSpec.ofChange Rows.arbPairsSpec) :=
  OpenClaim.holds_of_wide 6 Tryd.f6 rfl rfl rfl rfl rfl rfl rfl ⟨rfl, rfl, rfl, rfl, rfl⟩ rfl rfl rfl rfl rfl (by kernel_rfl) Tryd.func6 (by kernel_rfl)
    (of_decide_eq_true (by kernel_rfl)) (by unfold Func.isWrapper; first | (rw [if_pos (by decide +kernel)]; kernel_rfl) | (rw [if_neg (by decide +kernel)]; exact ⟨rfl, rfl⟩))
    (fun os started H enc _ => arbPairs_lifted os started H enc)

theorem arbPairs_holds : Rows.ArbPairsCardSaid :=
  Claim7.holds_tied_plain_at .later [] [.wider] true (true, "006ea62dc85fac090e9905e82acde7d14dedde7539dceda8060da74993108850") true
    arbPairs_over (fun _ h => by cases h) (by kernel_rfl) (fun _ h => by cases h) arbPairs_row_tie rfl ⟨rfl, rfl⟩ (by kernel_rfl) rfl
    (fun f fn hf hfn => by
      obtain rfl : f = 6 := Option.some.inj ((show Tryd.prog.funcNamed Tryd.f6.name = some 6 by kernel_rfl).symm.trans hf) |>.symm
      obtain rfl : fn = Tryd.f6 := (Option.some.inj (Tryd.func6.symm.trans hfn)).symm
      exact ⟨by kernel_rfl, fun j t ht => by
        rw [Tryd.params6] at ht
        have hm : t ∈ [24, 3, 3, 3] := by
          have := Array.mem_of_getElem? ht
          simpa using this
        have hall : ([24, 3, 3, 3].all fun u => !Tryd.prog.wantsStandIn u) = true := by kernel_rfl
        exact (show Tryd.prog.wantsStandIn t = false by simpa using List.all_eq_true.1 hall t hm)⟩)
    (by kernel_rfl)
#print axioms arbPairs_holds
end Go.Proofs.YthhmedlefahccabDoor

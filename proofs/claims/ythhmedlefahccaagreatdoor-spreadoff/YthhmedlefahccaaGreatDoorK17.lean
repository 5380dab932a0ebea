/-
  plaitinglaw9's calm, its walk.
-/
import Derived.Test.YthhmedlefahccaaGreatDoorK16
import Derived.Great.Walk
import Derived.Deep.WholeRow
namespace Go.Proofs.YthhmedlefahccaaGreatDoor
open Go.RowKit Plait
set_option maxRecDepth 100000
set_option linter.unusedVariables false
set_option linter.unusedSimpArgs false

/-- What calm makes. -/
def calmC (c : Cf) (f : Fa) (sl : Int) (fr : Fr) (ns : List Int) (d : Int) : Cs :=
  ⟨makeC c, { f with To := 1000 }, 0, sl % (makeC c).N, d, [textF (makeF (makeC c) { fr with S := sl % (makeC c).N } ns)], List.replicate (makeC c).N.toNat 4, List.replicate (makeC c).N.toNat 0⟩

def zeroK : Array Value := #[.int .i64 0, .int .i64 0, .int .i64 0, .int .i64 0, .int .i64 0, .slice none 0 0, .int .i64 0, .int .i64 0, .int .i64 0, .int .i64 0, .slice none 0 0, .slice none 0 0, .int .i64 0, .int .i64 0, .int .i64 0, .slice none 0 0, .slice none 0 0, .slice none 0 0]

/-- What is held while a case is being made: the frame's box, the result's, the case's, the network's row. -/
structure KH (w : World) (xb yb zb : Nat) (yc zc xc : Array Value) (ga : Option Addr) (P : List Int) (W : World) : Prop where
  hB : Below w.heap.size w W
  hY : Blk W yb 32 yc
  hZ : Blk W zb 37 zc
  hX : Blk W xb 37 xc
  hr : Row W ga P
  lx : w.heap.size ≤ xb
  ly : w.heap.size ≤ yb
  lz : w.heap.size ≤ zb
  yx : yb ≠ xb
  zx : zb ≠ xb
  yz : yb ≠ zb
  hp : P = [] ∨ ∀ p, ga = some p → p.block ≠ xb ∧ p.block ≠ yb ∧ p.block ≠ zb
theorem KH.later {w : World} {xb yb zb : Nat} {yc zc xc : Array Value} {ga : Option Addr} {P : List Int} {W W' : World} (h : KH w xb yb zb yc zc xc ga P W) (hb : Below W.heap.size W W') : KH w xb yb zb yc zc xc ga P W' :=
  ⟨h.hB.trans (hb.mono h.hB.size), h.hY.later hb, h.hZ.later hb, h.hX.later hb, h.hr.later hb, h.lx, h.ly, h.lz, h.yx, h.zx, h.yz, h.hp⟩
theorem KH.setX {w : World} {xb yb zb : Nat} {yc zc xc : Array Value} {ga : Option Addr} {P : List Int} {W : World} (h : KH w xb yb zb yc zc xc ga P W) (k : Nat) (u : Value) : KH w xb yb zb yc zc (xc.setIfInBounds k u) ga P (W.setCell ⟨xb, k, none⟩ u) :=
  ⟨h.hB.setCell (p := ⟨xb, k, none⟩) h.lx u, h.hY.far (p := ⟨xb, k, none⟩) h.yx u, h.hZ.far (p := ⟨xb, k, none⟩) h.zx u, h.hX.set k u, h.hr.far3 xb k u (h.hp.imp id fun q p e => (q p e).1), h.lx, h.ly, h.lz, h.yx, h.zx, h.yz, h.hp⟩
theorem KH.setY {w : World} {xb yb zb : Nat} {yc zc xc : Array Value} {ga : Option Addr} {P : List Int} {W : World} (h : KH w xb yb zb yc zc xc ga P W) (k : Nat) (u : Value) : KH w xb yb zb (yc.setIfInBounds k u) zc xc ga P (W.setCell ⟨yb, k, none⟩ u) :=
  ⟨h.hB.setCell (p := ⟨yb, k, none⟩) h.ly u, h.hY.set k u, h.hZ.far (p := ⟨yb, k, none⟩) (Ne.symm h.yz) u, h.hX.far (p := ⟨yb, k, none⟩) (Ne.symm h.yx) u, h.hr.far3 yb k u (h.hp.imp id fun q p e => (q p e).2.1), h.lx, h.ly, h.lz, h.yx, h.zx, h.yz, h.hp⟩


set_option maxHeartbeats 6400000 in
theorem ccalm_any (c : Cf) (ca : Option Addr) (cc : Nat) (f : Fa) (fa : Option Addr) (fac : Nat) (fd : Option Addr) (fdc : Nat) (sl : Int) (y : Fr) (ya : Option Addr) (yc : Nat) (na : Option Addr) (ns : List Int) (nc : Nat) (d : Int) (w : World)
    (hrow : Row w ca c.P) (hA : RowA w fa f.A) (hD : Row w fd f.D) (hns : Row w na ns) (hsl : inI sl) (iK : inI y.K) (iR : inI y.R) (iV : inI y.P.V) :
    Calls Tryz.prog 35 #[.agg #[.int .i64 c.N, .int .i64 c.Pi, .int .i64 c.E, .int .i64 c.G, .int .i64 c.F, .slice ca c.P.length cc], .agg #[.int .i64 f.K, .int .i64 f.At, .int .i64 f.F, .int .i64 f.To, .slice fa f.A.length fac, .slice fd f.D.length fdc], .int .i64 sl, .agg #[.int .i64 y.K, .int .i64 y.R, .int .i64 y.S, .int .i64 y.P.K, .int .i64 y.P.V, .slice ya y.E.length yc], .slice na ns.length nc, .int .i64 d] w (CsRet (calmC c f sl y ns d) w) := by
  have hB0 : Below w.heap.size w ((((w.alloc (.cells #[.int .i64 c.N, .int .i64 c.Pi, .int .i64 c.E, .int .i64 c.G, .int .i64 c.F, .slice ca c.P.length cc] 24)).alloc (.cells #[.int .i64 f.K, .int .i64 f.At, .int .i64 f.F, .int .i64 f.To, .slice fa f.A.length fac, .slice fd f.D.length fdc] 27)).alloc (.cells #[.int .i64 y.K, .int .i64 y.R, .int .i64 y.S, .int .i64 y.P.K, .int .i64 y.P.V, .slice ya y.E.length yc] 32)).alloc (.cells zeroK 37)) := (((alloc_below w _).alloc (by simp) _).alloc (by simp; omega) _).alloc (by simp; omega) _
  have hC0 : Blk ((((w.alloc (.cells #[.int .i64 c.N, .int .i64 c.Pi, .int .i64 c.E, .int .i64 c.G, .int .i64 c.F, .slice ca c.P.length cc] 24)).alloc (.cells #[.int .i64 f.K, .int .i64 f.At, .int .i64 f.F, .int .i64 f.To, .slice fa f.A.length fac, .slice fd f.D.length fdc] 27)).alloc (.cells #[.int .i64 y.K, .int .i64 y.R, .int .i64 y.S, .int .i64 y.P.K, .int .i64 y.P.V, .slice ya y.E.length yc] 32)).alloc (.cells zeroK 37)) w.heap.size 24 (confBox c ca cc) := (((Blk.new w _ _).alloc _).alloc _).alloc _
  have hF0 : Blk ((((w.alloc (.cells #[.int .i64 c.N, .int .i64 c.Pi, .int .i64 c.E, .int .i64 c.G, .int .i64 c.F, .slice ca c.P.length cc] 24)).alloc (.cells #[.int .i64 f.K, .int .i64 f.At, .int .i64 f.F, .int .i64 f.To, .slice fa f.A.length fac, .slice fd f.D.length fdc] 27)).alloc (.cells #[.int .i64 y.K, .int .i64 y.R, .int .i64 y.S, .int .i64 y.P.K, .int .i64 y.P.V, .slice ya y.E.length yc] 32)).alloc (.cells zeroK 37)) (w.heap.size + 1) 27 (faBox f fa fac fd fdc) := ((Blk.newAt _ _ (by simp)).alloc _).alloc _
  have hY0 : Blk ((((w.alloc (.cells #[.int .i64 c.N, .int .i64 c.Pi, .int .i64 c.E, .int .i64 c.G, .int .i64 c.F, .slice ca c.P.length cc] 24)).alloc (.cells #[.int .i64 f.K, .int .i64 f.At, .int .i64 f.F, .int .i64 f.To, .slice fa f.A.length fac, .slice fd f.D.length fdc] 27)).alloc (.cells #[.int .i64 y.K, .int .i64 y.R, .int .i64 y.S, .int .i64 y.P.K, .int .i64 y.P.V, .slice ya y.E.length yc] 32)).alloc (.cells zeroK 37)) (w.heap.size + 1 + 1) 32 (frBox y ya yc) := (Blk.newAt _ _ (by simp)).alloc _
  have hZ0 : Blk ((((w.alloc (.cells #[.int .i64 c.N, .int .i64 c.Pi, .int .i64 c.E, .int .i64 c.G, .int .i64 c.F, .slice ca c.P.length cc] 24)).alloc (.cells #[.int .i64 f.K, .int .i64 f.At, .int .i64 f.F, .int .i64 f.To, .slice fa f.A.length fac, .slice fd f.D.length fdc] 27)).alloc (.cells #[.int .i64 y.K, .int .i64 y.R, .int .i64 y.S, .int .i64 y.P.K, .int .i64 y.P.V, .slice ya y.E.length yc] 32)).alloc (.cells zeroK 37)) (w.heap.size + 1 + 1 + 1) 37 zeroK := Blk.newAt _ _ (by simp)
  unfold zeroK at hB0 hC0 hF0 hY0
  conv at hZ0 => arg 1; unfold zeroK
  have HX := Lib.hid (show calmC c f sl y ns d = ⟨makeC c, { f with To := 1000 }, 0, sl % (makeC c).N, d, [textF (makeF (makeC c) { y with S := sl % (makeC c).N } ns)], List.replicate (makeC c).N.toNat 4, List.replicate (makeC c).N.toNat 0⟩ from rfl)
  have hok := makeC_ok c
  have HMK := Lib.hid (fun W (h : Row W ca c.P) => make_any2 c ca cc W h)
  generalize makeC c = g at *
  generalize calmC c f sl y ns d = X at *
  have n6 := hok.n6; have n12 := hok.n12
  go_enter Tryz.func35, Tryz.ntmps35
  go_upto_region 1 with fail
  generalize ((((w.alloc (.cells #[.int .i64 c.N, .int .i64 c.Pi, .int .i64 c.E, .int .i64 c.G, .int .i64 c.F, .slice ca c.P.length cc] 24)).alloc (.cells #[.int .i64 f.K, .int .i64 f.At, .int .i64 f.F, .int .i64 f.To, .slice fa f.A.length fac, .slice fd f.D.length fdc] 27)).alloc (.cells #[.int .i64 y.K, .int .i64 y.R, .int .i64 y.S, .int .i64 y.P.K, .int .i64 y.P.V, .slice ya y.E.length yc] 32)).alloc (.cells _ 37)) = w1 at *
  have hz1 := hZ0.lt
  have hq := hC0.at
  unfold confBox at hq
  go_wp2_with fail
  refine (HMK.out _ (hrow.later hB0)).mono ?_
  rintro e w2 ⟨ga, gc, rfl, hrg, hfg, hog, hb⟩
  replace hB0 := hB0.trans (hb.mono hB0.size)
  replace hF0 := hF0.later hb
  replace hY0 := hY0.later hb
  replace hZ0 := hZ0.later hb
  clear hb hq hC0 hog
  go_upto_region 2 with fail
  have hb := alloc_below w2 (.cells #[.int .i64 g.N, .int .i64 g.Pi, .int .i64 g.E, .int .i64 g.G, .int .i64 g.F, .slice ga g.P.length gc, .int .i64 0, .int .i64 0, .int .i64 0, .int .i64 0, .slice none 0 0, .slice none 0 0, .int .i64 0, .int .i64 0, .int .i64 d, .slice none 0 0, .slice none 0 0, .slice none 0 0] 37)
  have hXB := Blk.new w2 37 #[.int .i64 g.N, .int .i64 g.Pi, .int .i64 g.E, .int .i64 g.G, .int .i64 g.F, .slice ga g.P.length gc, .int .i64 0, .int .i64 0, .int .i64 0, .int .i64 0, .slice none 0 0, .slice none 0 0, .int .i64 0, .int .i64 0, .int .i64 d, .slice none 0 0, .slice none 0 0, .slice none 0 0]
  have hzl := hZ0.lt
  have hzl1 := hz1
  have hgne : g.P = [] ∨ ∀ p, ga = some p → p.block ≠ w2.heap.size ∧ p.block ≠ w.heap.size + 1 + 1 ∧ p.block ≠ w.heap.size + 1 + 1 + 1 := by
    rcases hrg.lt with e | e
    · exact .inl e
    · exact .inr fun p hp => by have := e p hp; have := hfg p hp; omega
  have hK : KH w w2.heap.size (w.heap.size + 1 + 1) (w.heap.size + 1 + 1 + 1) (frBox y ya yc) zeroK #[.int .i64 g.N, .int .i64 g.Pi, .int .i64 g.E, .int .i64 g.G, .int .i64 g.F, .slice ga g.P.length gc, .int .i64 0, .int .i64 0, .int .i64 0, .int .i64 0, .slice none 0 0, .slice none 0 0, .int .i64 0, .int .i64 0, .int .i64 d, .slice none 0 0, .slice none 0 0, .slice none 0 0] ga g.P (w2.alloc (.cells #[.int .i64 g.N, .int .i64 g.Pi, .int .i64 g.E, .int .i64 g.G, .int .i64 g.F, .slice ga g.P.length gc, .int .i64 0, .int .i64 0, .int .i64 0, .int .i64 0, .slice none 0 0, .slice none 0 0, .int .i64 0, .int .i64 0, .int .i64 d, .slice none 0 0, .slice none 0 0, .slice none 0 0] 37)) :=
    ⟨hB0.trans (hb.mono hB0.size), hY0.later hb, hZ0.later hb, hXB, hrg.later hb, by omega, by omega, by omega, by omega, by omega, by omega, hgne⟩
  replace hF0 := hF0.later hb
  clear hb hgne hfg hrg hB0 hY0 hZ0
  have hq := hF0.at
  unfold faBox at hq
  have hqx := hXB.at
  have hfx := hXB.frozen
  have hxl : w.heap.size + 1 < w2.heap.size := by omega
  clear hXB hF0
  generalize w2.alloc (.cells #[.int .i64 g.N, .int .i64 g.Pi, .int .i64 g.E, .int .i64 g.G, .int .i64 g.F, .slice ga g.P.length gc, .int .i64 0, .int .i64 0, .int .i64 0, .int .i64 0, .slice none 0 0, .slice none 0 0, .int .i64 0, .int .i64 0, .int .i64 d, .slice none 0 0, .slice none 0 0, .slice none 0 0] 37) = w3 at *
  generalize w2.heap.size = xb at *
  go_upto_region 3 with fail
  clear hq hqx hfx
  have hK2 : KH w xb (w.heap.size + 1 + 1) (w.heap.size + 1 + 1 + 1) (frBox y ya yc) zeroK (csB g ga gc f fa fac fd fdc 0 0 d (.slice none 0 0) (.slice none 0 0) (.slice none 0 0)) ga g.P ((((((w3.setCell ⟨xb, 6, none⟩ (.int .i64 f.K)).setCell ⟨xb, 7, none⟩ (.int .i64 f.At)).setCell ⟨xb, 8, none⟩ (.int .i64 f.F)).setCell ⟨xb, 9, none⟩ (.int .i64 f.To)).setCell ⟨xb, 10, none⟩ (.slice fa f.A.length fac)).setCell ⟨xb, 11, none⟩ (.slice fd f.D.length fdc)) :=
    (((((hK.setX 6 (.int .i64 f.K)).setX 7 (.int .i64 f.At)).setX 8 (.int .i64 f.F)).setX 9 (.int .i64 f.To)).setX 10 (.slice fa f.A.length fac)).setX 11 (.slice fd f.D.length fdc)
  have hfx := hK2.hX.frozen
  have hqx := hK2.hX.at
  generalize (((((w3.setCell ⟨xb, 6, none⟩ (.int .i64 f.K)).setCell ⟨xb, 7, none⟩ (.int .i64 f.At)).setCell ⟨xb, 8, none⟩ (.int .i64 f.F)).setCell ⟨xb, 9, none⟩ (.int .i64 f.To)).setCell ⟨xb, 10, none⟩ (.slice fa f.A.length fac)).setCell ⟨xb, 11, none⟩ (.slice fd f.D.length fdc) = w4 at *
  unfold csB at hqx
  go_upto_region 4 with fail
  clear hqx hfx hK
  obtain ⟨f', hf'⟩ : ∃ f' : Fa, f' = { f with To := 1000 } := ⟨_, rfl⟩
  rw [← hf'] at HX
  have hK3 : KH w xb (w.heap.size + 1 + 1) (w.heap.size + 1 + 1 + 1) (frBox y ya yc) zeroK (csB g ga gc f' fa fac fd fdc 0 0 d (.slice none 0 0) (.slice none 0 0) (.slice none 0 0)) ga g.P (w4.setCell ⟨xb, 9, none⟩ (.int .i64 1000)) := by
    subst hf'
    exact hK2.setX 9 (.int .i64 1000)
  have hA2 : RowA w fa f'.A := by subst hf'; exact hA
  have hD2 : Row w fd f'.D := by subst hf'; exact hD
  clear hf' hK2 hA hD
  generalize w4.setCell ⟨xb, 9, none⟩ (.int .i64 1000) = w5 at *
  have hqx := hK3.hX.at
  unfold csB at hqx
  go_wp2_with fail
  refine (within9_any sl g.N _ (by omega) (by omega)).mono ?_
  rintro e wl ⟨rfl, rfl⟩
  have s0 := Int.emod_nonneg sl (show g.N ≠ 0 by omega)
  have s1 := Int.emod_lt_of_pos sl (show 0 < g.N by omega)
  generalize sl % g.N = s at *
  have hfx := hK3.hX.frozen
  go_upto_region 5 with fail
  clear hqx hfx
  have hK4 : KH w xb (w.heap.size + 1 + 1) (w.heap.size + 1 + 1 + 1) (frBox y ya yc) zeroK (csB g ga gc f' fa fac fd fdc 0 s d (.slice none 0 0) (.slice none 0 0) (.slice none 0 0)) ga g.P (w5.setCell ⟨xb, 13, none⟩ (.int .i64 s)) := hK3.setX 13 (.int .i64 s)
  clear hK3
  generalize w5.setCell ⟨xb, 13, none⟩ (.int .i64 s) = w6 at *
  have hqx := hK4.hX.at
  unfold csB at hqx
  have hqy := hK4.hY.at
  have hfy := hK4.hY.frozen
  unfold frBox at hqy
  go_upto_region 6 with fail
  clear hqx hqy hfy
  have hK5 : KH w xb (w.heap.size + 1 + 1) (w.heap.size + 1 + 1 + 1) (frBox { y with S := s } ya yc) zeroK (csB g ga gc f' fa fac fd fdc 0 s d (.slice none 0 0) (.slice none 0 0) (.slice none 0 0)) ga g.P (w6.setCell ⟨w.heap.size + 1 + 1, 2, none⟩ (.int .i64 s)) := hK4.setY 2 (.int .i64 s)
  clear hK4
  generalize w6.setCell ⟨w.heap.size + 1 + 1, 2, none⟩ (.int .i64 s) = w7 at *
  obtain ⟨z, hz⟩ : ∃ z : Fr, z = { y with S := s } := ⟨_, rfl⟩
  rw [← hz] at hK5 HX
  have iK2 : inI z.K := by subst hz; exact iK
  have iR2 : inI z.R := by subst hz; exact iR
  have iV2 : inI z.P.V := by subst hz; exact iV
  have iS2 : inI z.S := by subst hz; exact ⟨by show _ ≤ s; omega, by show s ≤ _; omega⟩
  clear hz
  have hns2 := hns.later hK5.hB
  have hokg := makeF_ok g z ns hok
  have HM5 := Lib.hid (fun W (h : Row W na ns) => make5_any g ga gc z ya yc na ns nc W hok h iK2 iR2 iS2 iV2)
  have hXb := hK5.hX
  have hYb := hK5.hY
  have HX2 := HX
  generalize makeF g z ns = G at *
  refine region_tail [some 32, some 33, some 34, some 35, some 36, some 37, some 38, some 39, some 40, some 41, none] [none, none, none, none, none, none, none, none, none, none, none] 60 10 (by kernel_rfl) (by kernel_rfl) rfl rfl ?_
  simp only [List.take_succ_cons, List.take_zero, List.drop_succ_cons, List.drop_zero]
  apply step_fix
  · intro a W Zs hS hFm hz hd
    have h13 := hFm.old 13 rfl
    conv at h13 => rhs; whnf
    replace h13 := ev_get hFm.size h13
    refine .inl ⟨wanted_none rfl _, fun K hK => ?_⟩
    have HK := Lib.hid hK
    clear hd hFm hK
    go_simp
    exact HK.out _ _ rfl (Below.refl _ _)
  simp only [List.nil_append, List.cons_append]
  apply step_fix
  · intro a W Zs hS hFm hz hd
    have h32 := ev_get hFm.size (hd 0 32 rfl rfl)
    have hq := (hXb.drew1.later hS).at
    unfold csB at hq
    refine .inl ⟨wanted_none rfl _, fun K hK => ?_⟩
    have HK := Lib.hid hK
    clear hd hFm hK
    go_simp
    exact HK.out _ _ rfl (Below.refl _ _)
  simp only [List.nil_append, List.cons_append]
  apply step_fix
  · intro a W Zs hS hFm hz hd
    have h13 := hFm.old 13 rfl
    conv at h13 => rhs; whnf
    replace h13 := ev_get hFm.size h13
    refine .inl ⟨wanted_none rfl _, fun K hK => ?_⟩
    have HK := Lib.hid hK
    clear hd hFm hK
    go_simp
    exact HK.out _ _ rfl (Below.refl _ _)
  simp only [List.nil_append, List.cons_append]
  apply step_fix
  · intro a W Zs hS hFm hz hd
    have h34 := ev_get hFm.size (hd 2 34 rfl rfl)
    have hq := (hXb.drew1.later hS).at
    unfold csB at hq
    refine .inl ⟨wanted_none rfl _, fun K hK => ?_⟩
    have HK := Lib.hid hK
    clear hd hFm hK
    go_simp
    exact HK.out _ _ rfl (Below.refl _ _)
  simp only [List.nil_append, List.cons_append]
  apply step_fix
  · intro a W Zs hS hFm hz hd
    have h9 := hFm.old 9 rfl
    conv at h9 => rhs; whnf
    replace h9 := ev_get hFm.size h9
    have hq := (hYb.drew1.later hS).at
    unfold frBox at hq
    refine .inl ⟨wanted_none rfl _, fun K hK => ?_⟩
    have HK := Lib.hid hK
    clear hd hFm hK
    go_simp
    exact HK.out _ _ rfl (Below.refl _ _)
  simp only [List.nil_append, List.cons_append]
  apply step_fix
  · intro a W Zs hS hFm hz hd
    have h4 := hFm.old 4 rfl
    conv at h4 => rhs; whnf
    replace h4 := ev_get hFm.size h4
    refine .inl ⟨wanted_none rfl _, fun K hK => ?_⟩
    have HK := Lib.hid hK
    clear hd hFm hK
    go_simp
    exact HK.out _ _ rfl (Below.refl _ _)
  simp only [List.nil_append, List.cons_append]
  refine step_of (frF _ (G)) (frF_good _ _) ?_ ?_
  · intro a W Zs hS hFm hz hd
    have h35 := ev_get hFm.size (hd 3 35 rfl rfl)
    have h36 := ev_get hFm.size (hd 4 36 rfl rfl)
    have h37 := ev_get hFm.size (hd 5 37 rfl rfl)
    refine .inl ⟨wanted_none rfl _, fun K hK => ?_⟩
    have HK := Lib.hid hK
    clear hd hFm hK
    go_simp
    refine (HM5.out _ (hns2.drew1.later hS)).mono ?_
    rintro e W' ⟨ra, rc, rfl, hr, hfr, hb⟩
    exact HK.out _ _ ⟨ra, rc, rfl, hr, hr.foot hfr⟩ hb
  simp only [List.nil_append, List.cons_append]
  apply step_fix
  · intro a W Zs hS hFm hz hd
    have h33 := ev_get hFm.size (hd 1 33 rfl rfl)
    obtain ⟨a38, c38, e38, r38, f38⟩ := hd 6 38 rfl rfl
    have h38 := ev_get hFm.size e38
    refine .inl ⟨wanted_none rfl _, fun K hK => ?_⟩
    have HK := Lib.hid hK
    clear hd hFm hK
    go_simp
    refine (rText_ok g ga gc G a38 c38 _ hok hokg r38).mono ?_
    rintro e W' ⟨rfl, hb⟩
    exact HK.out _ _ rfl hb
  simp only [List.nil_append, List.cons_append]
  apply step_blk
  · intro a W Zs hS hFm hz hd
    have h39 := ev_get hFm.size (hd 7 39 rfl rfl)
    refine .inl ⟨wanted_none rfl _, fun K hK => ?_⟩
    have HK := Lib.hid hK
    clear hd hFm hK
    go_simp
    exact HK.out _ _ ⟨_, rfl, Blk.new _ _ _, .inr (.inl ⟨Nat.le_refl _, by simp⟩)⟩ (alloc_below _ _)
  simp only [List.nil_append, List.cons_append]
  apply step_fix
  · intro a W Zs hS hFm hz hd
    have h13 := hFm.old 13 rfl
    conv at h13 => rhs; whnf
    replace h13 := ev_get hFm.size h13
    refine .inl ⟨wanted_none rfl _, fun K hK => ?_⟩
    have HK := Lib.hid hK
    clear hd hFm hK
    go_simp
    exact HK.out _ _ rfl (Below.refl _ _)
  simp only [List.nil_append, List.cons_append]
  intro a w8 Zs hS hFm hz hd
  obtain ⟨b40, e40, q40, f40⟩ := hd 8 40 (by decide) rfl
  have e41 := hd 9 41 (by decide) rfl
  have e0 := hFm.old 0 rfl
  conv at e0 => rhs; whnf
  have e1 := hFm.old 1 rfl
  conv at e1 => rhs; whnf
  have e2 := hFm.old 2 rfl
  conv at e2 => rhs; whnf
  have e3 := hFm.old 3 rfl
  conv at e3 => rhs; whnf
  have e4 := hFm.old 4 rfl
  conv at e4 => rhs; whnf
  have e5 := hFm.old 5 rfl
  conv at e5 => rhs; whnf
  have e6 := hFm.old 6 rfl
  conv at e6 => rhs; whnf
  have e7 := hFm.old 7 rfl
  conv at e7 => rhs; whnf
  have e8 := hFm.old 8 rfl
  conv at e8 => rhs; whnf
  have e9 := hFm.old 9 rfl
  conv at e9 => rhs; whnf
  have e10 := hFm.old 10 rfl
  conv at e10 => rhs; whnf
  have e11 := hFm.old 11 rfl
  conv at e11 => rhs; whnf
  have e12 := hFm.old 12 rfl
  conv at e12 => rhs; whnf
  have e13 := hFm.old 13 rfl
  conv at e13 => rhs; whnf
  have e14 := hFm.old 14 rfl
  conv at e14 => rhs; whnf
  have e15 := hFm.old 15 rfl
  conv at e15 => rhs; whnf
  have e16 := hFm.old 16 rfl
  conv at e16 => rhs; whnf
  have e17 := hFm.old 17 rfl
  conv at e17 => rhs; whnf
  have e18 := hFm.old 18 rfl
  conv at e18 => rhs; whnf
  have e19 := hFm.old 19 rfl
  conv at e19 => rhs; whnf
  have e20 := hFm.old 20 rfl
  conv at e20 => rhs; whnf
  have e21 := hFm.old 21 rfl
  conv at e21 => rhs; whnf
  have e22 := hFm.old 22 rfl
  conv at e22 => rhs; whnf
  have e23 := hFm.old 23 rfl
  conv at e23 => rhs; whnf
  have e24 := hFm.old 24 rfl
  conv at e24 => rhs; whnf
  have e25 := hFm.old 25 rfl
  conv at e25 => rhs; whnf
  have e26 := hFm.old 26 rfl
  conv at e26 => rhs; whnf
  have e27 := hFm.old 27 rfl
  conv at e27 => rhs; whnf
  have e28 := hFm.old 28 rfl
  conv at e28 => rhs; whnf
  have e29 := hFm.old 29 rfl
  conv at e29 => rhs; whnf
  have e30 := hFm.old 30 rfl
  conv at e30 => rhs; whnf
  have e31 := hFm.old 31 rfl
  conv at e31 => rhs; whnf
  have e42 := hFm.old 42 rfl
  conv at e42 => rhs; whnf
  have e43 := hFm.old 43 rfl
  conv at e43 => rhs; whnf
  have e44 := hFm.old 44 rfl
  conv at e44 => rhs; whnf
  have e45 := hFm.old 45 rfl
  conv at e45 => rhs; whnf
  have e46 := hFm.old 46 rfl
  conv at e46 => rhs; whnf
  have e47 := hFm.old 47 rfl
  conv at e47 => rhs; whnf
  have e48 := hFm.old 48 rfl
  conv at e48 => rhs; whnf
  have e49 := hFm.old 49 rfl
  conv at e49 => rhs; whnf
  have e50 := hFm.old 50 rfl
  conv at e50 => rhs; whnf
  have e51 := hFm.old 51 rfl
  conv at e51 => rhs; whnf
  have e52 := hFm.old 52 rfl
  conv at e52 => rhs; whnf
  have e53 := hFm.old 53 rfl
  conv at e53 => rhs; whnf
  have e54 := hFm.old 54 rfl
  conv at e54 => rhs; whnf
  have e55 := hFm.old 55 rfl
  conv at e55 => rhs; whnf
  have e56 := hFm.old 56 rfl
  conv at e56 => rhs; whnf
  have e57 := hFm.old 57 rfl
  conv at e57 => rhs; whnf
  have e58 := hFm.old 58 rfl
  conv at e58 => rhs; whnf
  have e59 := hFm.old 59 rfl
  conv at e59 => rhs; whnf
  have hsz := hFm.size
  have hdf := hFm.defers
  clear hd hFm
  obtain ⟨t, df⟩ := a
  simp only at hsz hdf
  subst hdf
  obtain ⟨x, hx⟩ : ∃ x : Nat → Value, ∀ i, t.getD i undef = x i := ⟨fun i => t.getD i undef, fun _ => rfl⟩
  have h40 := (hx 40).symm.trans e40
  have h41 := (hx 41).symm.trans e41
  have h0 := (hx 0).symm.trans e0
  have h1 := (hx 1).symm.trans e1
  have h2 := (hx 2).symm.trans e2
  have h3 := (hx 3).symm.trans e3
  have h4 := (hx 4).symm.trans e4
  have h5 := (hx 5).symm.trans e5
  have h6 := (hx 6).symm.trans e6
  have h7 := (hx 7).symm.trans e7
  have h8 := (hx 8).symm.trans e8
  have h9 := (hx 9).symm.trans e9
  have h10 := (hx 10).symm.trans e10
  have h11 := (hx 11).symm.trans e11
  have h12 := (hx 12).symm.trans e12
  have h13 := (hx 13).symm.trans e13
  have h14 := (hx 14).symm.trans e14
  have h15 := (hx 15).symm.trans e15
  have h16 := (hx 16).symm.trans e16
  have h17 := (hx 17).symm.trans e17
  have h18 := (hx 18).symm.trans e18
  have h19 := (hx 19).symm.trans e19
  have h20 := (hx 20).symm.trans e20
  have h21 := (hx 21).symm.trans e21
  have h22 := (hx 22).symm.trans e22
  have h23 := (hx 23).symm.trans e23
  have h24 := (hx 24).symm.trans e24
  have h25 := (hx 25).symm.trans e25
  have h26 := (hx 26).symm.trans e26
  have h27 := (hx 27).symm.trans e27
  have h28 := (hx 28).symm.trans e28
  have h29 := (hx 29).symm.trans e29
  have h30 := (hx 30).symm.trans e30
  have h31 := (hx 31).symm.trans e31
  have h42 := (hx 42).symm.trans e42
  have h43 := (hx 43).symm.trans e43
  have h44 := (hx 44).symm.trans e44
  have h45 := (hx 45).symm.trans e45
  have h46 := (hx 46).symm.trans e46
  have h47 := (hx 47).symm.trans e47
  have h48 := (hx 48).symm.trans e48
  have h49 := (hx 49).symm.trans e49
  have h50 := (hx 50).symm.trans e50
  have h51 := (hx 51).symm.trans e51
  have h52 := (hx 52).symm.trans e52
  have h53 := (hx 53).symm.trans e53
  have h54 := (hx 54).symm.trans e54
  have h55 := (hx 55).symm.trans e55
  have h56 := (hx 56).symm.trans e56
  have h57 := (hx 57).symm.trans e57
  have h58 := (hx 58).symm.trans e58
  have h59 := (hx 59).symm.trans e59
  have ht' : t = #[x 0, x 1, x 2, x 3, x 4, x 5, x 6, x 7, x 8, x 9, x 10, x 11, x 12, x 13, x 14, x 15, x 16, x 17, x 18, x 19, x 20, x 21, x 22, x 23, x 24, x 25, x 26, x 27, x 28, x 29, x 30, x 31, x 32, x 33, x 34, x 35, x 36, x 37, x 38, x 39, x 40, x 41, x 42, x 43, x 44, x 45, x 46, x 47, x 48, x 49, x 50, x 51, x 52, x 53, x 54, x 55, x 56, x 57, x 58, x 59] := frame_lit t 60 hsz x hx
  clear hx hsz hz e40 e41 e0 e1 e2 e3 e4 e5 e6 e7 e8 e9 e10 e11 e12 e13 e14 e15 e16 e17 e18 e19 e20 e21 e22 e23 e24 e25 e26 e27 e28 e29 e30 e31 e42 e43 e44 e45 e46 e47 e48 e49 e50 e51 e52 e53 e54 e55 e56 e57 e58 e59
  subst ht'
  (try dsimp only)
  rw [h40, h41, h0, h1, h2, h3, h4, h5, h6, h7, h8, h9, h10, h11, h12, h13, h14, h15, h16, h17, h18, h19, h20, h21, h22, h23, h24, h25, h26, h27, h28, h29, h30, h31, h42, h43, h44, h45, h46, h47, h48, h49, h50, h51, h52, h53, h54, h55, h56, h57, h58, h59]
  clear h40 h41 h0 h1 h2 h3 h4 h5 h6 h7 h8 h9 h10 h11 h12 h13 h14 h15 h16 h17 h18 h19 h20 h21 h22 h23 h24 h25 h26 h27 h28 h29 h30 h31 h42 h43 h44 h45 h46 h47 h48 h49 h50 h51 h52 h53 h54 h55 h56 h57 h58 h59
  rw [undef_fold]
  have hb := from_drew hS
  have hK6 := hK5.later hb
  have hbz : b40 ≠ w.heap.size + 1 + 1 + 1 := by
    intro e
    rw [e] at q40
    have h1 := hK6.hZ
    unfold Blk at q40 h1
    rw [q40] at h1
    injection h1 with h1
    injection h1 with h2 h3
    exact absurd h3 (by decide)
  have hbx : b40 ≠ xb := by
    intro e
    rw [e] at q40
    have h1 := hK6.hX
    unfold Blk at q40 h1
    rw [q40] at h1
    injection h1 with h1
    injection h1 with h2 h3
    exact absurd h3 (by decide)
  clear hS hb f40 hK5 hXb hYb HM5 hns2
  have hqx := hK6.hX.at
  have hfx := hK6.hX.frozen
  unfold csB at hqx
  go_upto_region 7 with fail
  clear hqx hfx
  have hRS : RowS (w8.setCell ⟨xb, 15, none⟩ (.slice (some ⟨b40, 0, none⟩) 1 1)) (some ⟨b40, 0, none⟩) [textF G] := RowS.blk _ (q40.far (p := ⟨xb, 15, none⟩) hbx _) rfl (by show (1 : Nat) ≤ _; decide)
  have hK7 : KH w xb (w.heap.size + 1 + 1) (w.heap.size + 1 + 1 + 1) (frBox z ya yc) zeroK (csB g ga gc f' fa fac fd fdc 0 s d (.slice (some ⟨b40, 0, none⟩) 1 1) (.slice none 0 0) (.slice none 0 0)) ga g.P (w8.setCell ⟨xb, 15, none⟩ (.slice (some ⟨b40, 0, none⟩) 1 1)) := hK6.setX 15 _
  clear hK6 q40
  generalize w8.setCell ⟨xb, 15, none⟩ (.slice (some ⟨b40, 0, none⟩) 1 1) = w9 at *
  obtain ⟨bx, hbx2⟩ : ∃ bx : Value → Value → Array Value, bx = fun v u => csB g ga gc f' fa fac fd fdc 0 s d (.slice (some ⟨b40, 0, none⟩) 1 1) v u := ⟨_, rfl⟩
  have hP0 : PairR w w9 xb bx (List.replicate 0 4) (List.replicate 0 0) (.slice none 0 0) (.slice none 0 0) w9 :=
    ⟨hK7.hB, ⟨Nat.le_refl _, fun _ _ _ _ => rfl⟩, by subst hbx2; exact hK7.hX, OwnI.nil _ _, OwnI.nil _ _, fun p q h => by cases h⟩
  have hxl9 : xb < w9.heap.size := hK7.hX.lt
  have hxw : w.heap.size ≤ xb := hK7.lx
  have hwl : w.heap.size ≤ w9.heap.size := hK7.hB.size
  have hbb : ∀ v u v' u', ((bx v u).setIfInBounds 16 v').setIfInBounds 17 u' = bx v' u' := by subst hbx2; intro v u v' u'; rfl
  have HBB := Lib.hid hbb
  have hb0 : ∀ v u, (bx v u)[0]? = some (.int .i64 g.N) := by subst hbx2; intro v u; rfl
  have hb16 : ∀ v u, (bx v u)[16]? = some v := by subst hbx2; intro v u; rfl
  have hb17 : ∀ v u, (bx v u)[17]? = some u := by subst hbx2; intro v u; rfl
  have HB0 := Lib.hid (fun (W : World) (v u : Value) (h : Blk W xb 37 (bx v u)) => (h.at 0).trans (hb0 v u))
  have HB16 := Lib.hid (fun (W : World) (v u : Value) (h : Blk W xb 37 (bx v u)) => (h.at 16).trans (hb16 v u))
  have HB17 := Lib.hid (fun (W : World) (v u : Value) (h : Blk W xb 37 (bx v u)) => (h.at 17).trans (hb17 v u))
  have HBX := Lib.hid hbx2
  clear hb0 hb16 hb17 hbx2
  obtain ⟨N, hN⟩ : ∃ N : Nat, g.N = N := ⟨g.N.toNat, by omega⟩
  have HN := Lib.hid hN
  have hN12 : N ≤ 12 := by omega
  clear hN hbb
  generalize (.agg #[.int .i64 c.N, .int .i64 c.Pi, .int .i64 c.E, .int .i64 c.G, .int .i64 c.F, .slice ca c.P.length cc] : Value) = V0
  generalize (.agg #[.int .i64 f.K, .int .i64 f.At, .int .i64 f.F, .int .i64 f.To, .slice fa f.A.length fac, .slice fd f.D.length fdc] : Value) = V1
  generalize (.agg #[.int .i64 y.K, .int .i64 y.R, .int .i64 y.S, .int .i64 y.P.K, .int .i64 y.P.V, .slice ya y.E.length yc] : Value) = V3
  generalize (.agg #[.int .i64 g.N, .int .i64 g.Pi, .int .i64 g.E, .int .i64 g.G, .int .i64 g.F, .slice ga g.P.length gc] : Value) = V16
  generalize (.agg #[.int .i64 g.N, .int .i64 g.Pi, .int .i64 g.E, .int .i64 g.G, .int .i64 g.F, .slice ga g.P.length gc, .int .i64 0, .int .i64 0, .int .i64 0, .int .i64 0, .slice none 0 0, .slice none 0 0, .int .i64 0, .int .i64 0, .int .i64 d, .slice none 0 0, .slice none 0 0, .slice none 0 0] : Value) = V18
  go_wp2
  go_loopw [14] (fun i W => ∃ (k : Nat) (v u : Value), i = .int .i64 k ∧ k ≤ N ∧ PairR w w9 xb bx (List.replicate k 4) (List.replicate k 0) v u W) (fun i _ => N - (intOf i).toNat)
  case atStart => exact ⟨0, _, _, rfl, Nat.zero_le _, hP0⟩
  case round =>
    obtain ⟨k, v, u, rfl, hk, hP⟩ := hrel
    by_cases hlt : k < N
    · have d1 : decide ((k : Int) < g.N) = true := by have := HN.out; simp; omega
      have HP := Lib.hid hP
      have hq0 := HB0.out _ _ _ hP.box
      have hfx := hP.box.frozen
      have HNX := Lib.hid (show ∀ W', PairR w w9 xb bx (List.replicate k 4 ++ [4]) (List.replicate k 0 ++ [0]) v u W' → True from fun _ _ => trivial)
      obtain ⟨av, cv, rfl⟩ := hP.ov.form
      obtain ⟨au, cu, rfl⟩ := hP.ou.form
      have hl1 : (List.replicate k (4 : Int)).length ≤ 12 := by simp; omega
      have hl2 : (List.replicate k (0 : Int)).length ≤ 12 := by simp; omega
      have HR4 := Lib.hid (show List.replicate (k + 1) (4 : Int) = List.replicate k 4 ++ [4] from List.replicate_succ')
      have HR0 := Lib.hid (show List.replicate (k + 1) (0 : Int) = List.replicate k 0 ++ [0] from List.replicate_succ')
      have HOL := hP.ov.lt
      have t1 := HB16.out _ _ _ hP.box
      have t2 := HB17.out _ _ _ hP.box
      have t3 := fun o : Obj => HB16.out _ _ _ (hP.box.alloc o)
      have t4 := fun o : Obj => HB17.out _ _ _ (hP.box.alloc o)
      have t5 := fun o o' : Obj => HB16.out _ _ _ ((hP.box.alloc o).alloc o')
      have t6 := fun o o' : Obj => HB17.out _ _ _ ((hP.box.alloc o).alloc o')
      clear hP HNX
      generalize List.replicate k (4 : Int) = A4 at *
      generalize List.replicate k (0 : Int) = A0 at *
      go_upto_region 10 with fail
      go_region_law (first
        | (refine step_app1 _ (by rfl) (.tmp 50) (.tmp 51) (by rfl) w9.heap.size (.slice av A4.length cv) A4 rfl ((HP.out.later (by first | exact (Below.refl _ _).drew.alloc (Nat.le_refl _) _ | exact ((Below.refl _ _).drew.alloc (Nat.le_refl _) _).alloc (by simp) _)).ov) _ 1 4 rfl (by first | exact heap_alloc_new _ _ | exact (Blk.new _ _ _).alloc _ | exact Blk.newAt _ _ (by simp)) (by omega) ((HP.out.later (by first | exact (Below.refl _ _).drew.alloc (Nat.le_refl _) _ | exact ((Below.refl _ _).drew.alloc (Nat.le_refl _) _).alloc (by simp) _)).two.1) ?_
           intro g5 cap5 w5x ho5 hg5 hgg5 hgl5
           obtain ⟨pb1, pt1, px1, pu1, pa1⟩ := PairR.app1 (HP.out.later (by first | exact (Below.refl _ _).drew.alloc (Nat.le_refl _) _ | exact ((Below.refl _ _).drew.alloc (Nat.le_refl _) _).alloc (by simp) _)) hxl9 hwl ho5 hg5 rfl hgg5
           have hpre := fun (H : Nat) (cs : Array Value) (t : TypeId) (hb : Blk _ H t cs) (hH : wr.heap.size ≤ H) => Blk.grown hb hg5 (fun e => by have := (HOL _ e.symm).2; omega)
           have t7 := HB17.out _ _ _ px1
           have t8 := fun (o : Obj) => HB17.out _ _ _ (px1.alloc o))
        | (refine step_app1 _ (by rfl) (.tmp 54) (.tmp 55) (by rfl) w9.heap.size (.slice au A0.length cu) A0 rfl (by first | exact pu1 | exact pu1.later (alloc_below _ _)) _ 1 0 rfl (by first | exact heap_alloc_new _ _ | exact hpre _ _ _ (Blk.drew1 (Blk.newAt _ _ (by simp))) (by simp) | exact hpre _ _ _ ((Blk.new _ _ _).alloc _) (Nat.le_refl _)) (by omega) (by first | exact pt1.1 | exact Nat.le_trans pt1.1 (alloc_below _ _).size) ?_
           intro g6 cap6 w6x ho6 hg6 hgg6 hgl6
           have hfin := PairR.app2 (ss := A4 ++ [4]) (v' := .slice (some ⟨g5, 0, none⟩) (A4.length + 1) cap5) (by first | exact pb1 | exact pb1.trans ((alloc_below _ _).mono pb1.size)) (by first | exact pt1 | exact pt1.trans (Two.of (alloc_below _ _) (Nat.le_refl _))) (by first | exact px1 | exact px1.alloc _) (by first | exact ho5 | exact ho5.later (alloc_below _ _)) (by first | exact pu1 | exact pu1.later (alloc_below _ _)) pa1 hxl9 hxw hwl HBB.out ho6 hg6 rfl hgg6
           have hxB := Blk.grown (by first | exact px1 | exact px1.alloc _) hg6 (fun e => by have := (pu1.lt _ e.symm).1; omega)
           have t9 := HB16.out _ _ _ hxB
           have t10 := HB17.out _ _ _ hxB
           have hfB := hxB.frozen))
      all_goals
        go_wp2
        go_roundw
        case rel => exact ⟨k + 1, _, _, by go_num, by omega, by rw [HR4.out, HR0.out]; exact hfin⟩
        case measure => simp [intOf]; omega
    · obtain rfl : k = N := by omega
      have d1 : decide ((k : Int) < g.N) = false := by have := HN.out; simp; omega
      have hq0 := HB0.out _ _ _ hP.box
      obtain ⟨av, cv, rfl⟩ := hP.ov.form
      obtain ⟨au, cu, rfl⟩ := hP.ou.form
      have hZ := hK7.hZ.two (Ne.symm (Ne.symm hK7.zx)) (Ne.symm (Ne.symm hK7.zx)) hP.two
      have hbxx := hP.box
      rw [HBX.out] at hbxx
      have HX3 := Lib.hid (show X = ⟨g, f', 0, s, d, [textF G], List.replicate k 4, List.replicate k 0⟩ by rw [HX.out]; have := HN.out; rw [show g.N.toNat = k by omega])
      have HPR := Lib.hid hP
      have L4 := Lib.hid (show (List.replicate k (4 : Int)).length = k from List.length_replicate)
      have L0 := Lib.hid (show (List.replicate k (0 : Int)).length = k from List.length_replicate)
      have V4 := Lib.hid (show ∀ z ∈ List.replicate k (4 : Int), -9223372036854775808 ≤ z ∧ z ≤ 9223372036854775807 from fun z hz => by obtain ⟨_, rfl⟩ := List.mem_replicate.1 hz; omega)
      have V0 := Lib.hid (show ∀ z ∈ List.replicate k (0 : Int), -9223372036854775808 ≤ z ∧ z ≤ 9223372036854775807 from fun z hz => by obtain ⟨_, rfl⟩ := List.mem_replicate.1 hz; omega)
      clear hP HX HX2
      generalize List.replicate k (4 : Int) = A4 at *
      generalize List.replicate k (0 : Int) = A0 at *
      go_upto_region 11 with fail
      refine wp_region_list ?_
      refine wpList_load_row rfl 37 (.tmp 13) rfl xb rfl 37 _ (0, 0) _ hbxx Tryz.underlying37 rfl (by kernel_rfl) ?_
      refine wpList_store_row rfl 37 (.tmp 12) (.tmp 59) rfl (w.heap.size + 1 + 1 + 1) (csB g ga gc f' fa fac fd fdc 0 s d (.slice (some ⟨b40, 0, none⟩) 1 1) (.slice av A4.length cv) (.slice au A0.length cu)) rfl rfl 37 zeroK hZ (by kernel_rfl) rfl (by simp [csB, Value.oneCell']) ?_
      refine wpList_nil ?_
      have hZ2 := hZ.row (csB g ga gc f' fa fac fd fdc 0 s d (.slice (some ⟨b40, 0, none⟩) 1 1) (.slice av A4.length cv) (.slice au A0.length cu))
      have hPz := HPR.out
      have hEnd := case_end ⟨g, f', 0, s, d, [textF G], A4, A0⟩ ⟨ga, gc, fa, fac, fd, fdc, some ⟨b40, 0, none⟩, 1, av, cv, au, cu⟩ w wr _ (w.heap.size + 1 + 1 + 1) w9.heap.size (Only.row wr (w.heap.size + 1 + 1 + 1) (csB g ga gc f' fa fac fd fdc 0 s d (.slice (some ⟨b40, 0, none⟩) 1 1) (.slice av A4.length cv) (.slice au A0.length cu))) hPz.hB (by omega) (by have := hK7.hZ.lt; omega) hwl
        (hK7.hr.twoLt (hK7.hp.imp id fun q p e => ⟨(q p e).1, (q p e).1⟩) hPz.two) (hA2.later hPz.hB) (hD2.later hPz.hB) (hRS.two (.inr fun p e => by injection e with e; subst e; exact ⟨hbx, hbx⟩) hPz.two) V4.out V0.out (by rw [L4.out]; exact hN12) (by rw [L0.out]; exact hN12) hPz.ov hPz.ou hPz.apart
        (by
          rcases hK7.hp with e | e
          · exact .inl e
          · rcases hK7.hr.lt with e2 | e2
            · exact .inl e2
            · exact .inr fun p hp => ⟨e2 p hp, (e p hp).2.2⟩)
        (hA2.lt.imp id fun q p e => by have := q p e; omega) (hD2.lt.imp id fun q p e => by have := q p e; omega)
        (hRS.lt.imp id fun q p e => ⟨q p e, by injection e with e; subst e; exact hbz⟩)
      go_wp2
      refine bodyPost_ret (v := .agg (csB g ga gc f' fa fac fd fdc 0 s d (.slice (some ⟨b40, 0, none⟩) 1 1) (.slice av A4.length cv) (.slice au A0.length cu))) (results_cell_row rfl _ _ (w.heap.size + 1 + 1 + 1) 37 _ (0, 0) _ rfl hZ2 Tryz.underlying37 rfl (by kernel_rfl)) rfl ?_
      rw [HX3.out]
      exact hEnd

end Go.Proofs.YthhmedlefahccaaGreatDoor
/-
  What is known of a case that calm made.
-/
namespace Go.Proofs.YthhmedlefahccaaGreatDoor
open Go.RowKit Plait
set_option maxRecDepth 100000
set_option linter.unusedVariables false

/-- What is known of a case that calm made. -/
structure CalmX (x : Cs) (d : Int) : Prop where
  c : x.c.Ok
  r : x.r = 0
  s0 : 0 ≤ x.s
  s1 : x.s < x.c.N
  d : x.d = d
  st : x.st = List.replicate x.c.N.toNat 4
  dv : x.dv = List.replicate x.c.N.toNat 0
  sl : x.sends.length = 1
  sk : clean (x.sends.getD 0 []) = x.sends.getD 0 []
  sb : (x.sends.getD 0 []).length ≤ 2000
  sn : x.sends.getD 0 [] ≠ []

theorem text_clean (g : Fr) : clean (textF g) = textF g := whole_is _ (text_whole g)

theorem calmC_x (c : Cf) (f : Fa) (sl : Int) (y : Fr) (ns : List Int) (d : Int) : CalmX (calmC c f sl y ns d) d ∧ (calmC c f sl y ns d).f = { f with To := 1000 } := by
  have hok := makeC_ok c
  have n6 := hok.n6
  have s0 : 0 ≤ sl % (makeC c).N := Int.emod_nonneg _ (by omega)
  have s1 : sl % (makeC c).N < (makeC c).N := Int.emod_lt_of_pos _ (by omega)
  refine ⟨⟨hok, rfl, s0, s1, rfl, rfl, rfl, rfl, text_clean _, ?_, ?_⟩, rfl⟩
  · show (textF (makeF (makeC c) { y with S := sl % (makeC c).N } ns)).length ≤ 2000
    have := frame_len hok (makeF_ok (makeC c) { y with S := sl % (makeC c).N } ns hok)
    omega
  · intro e
    have hl : (textF (makeF (makeC c) { y with S := sl % (makeC c).N } ns)).length = 0 := by
      have e' : textF (makeF (makeC c) { y with S := sl % (makeC c).N } ns) = [] := e
      rw [e']; rfl
    rw [textF_length] at hl
    omega

theorem CalmX.ok {x : Cs} {d : Int} (h : CalmX x d) (hd : d = 1 ∨ d = -1) (lA : x.f.A.length ≤ 1000000) (t : ∀ a ∈ x.f.A, a.T.length ≤ 2000) : x.Ok := by
  have n6 := h.c.n6
  obtain ⟨l, hl⟩ : ∃ l, x.sends = [l] := List.length_eq_one_iff.1 h.sl
  have e : x.sends.getD 0 [] = l := by rw [hl]; rfl
  have hsl : x.s < slotsI x.c := by unfold slotsI; have := h.s1; omega
  refine ⟨h.c, lA, t, by rw [h.r]; omega, by rw [h.r]; omega, h.s0, hsl, by rw [h.d]; exact hd, by rw [h.sl, own_one x.c x.s h.s0 h.s1]; rfl, ?_, ?_, by rw [h.st, List.length_replicate]; omega, by rw [h.dv, List.length_replicate]; omega⟩
  · intro q hq
    rw [hl] at hq
    obtain rfl := List.mem_singleton.1 hq
    rw [← e]; exact h.sb
  · intro q hq
    rw [hl] at hq
    obtain rfl := List.mem_singleton.1 hq
    have := h.sk
    rw [e] at this
    exact this

theorem CalmX.withF {x : Cs} {d : Int} (h : CalmX x d) (f : Fa) : CalmX { x with f := f } d := ⟨h.c, h.r, h.s0, h.s1, h.d, h.st, h.dv, h.sl, h.sk, h.sb, h.sn⟩


/-- Of one owner's slot it does not matter who the other one would be. -/
theorem Sp.oth_irr (x : Sp) (l : List UInt8) (hp : x.pair = false) : ∀ k : Nat, ({ x with oth := l } : Sp).out k = x.out k := by
  intro k
  induction k with
  | zero =>
    show (x.snd, if x.pair then some l else none) = (x.snd, if x.pair then some x.oth else none)
    rw [hp]; rfl
  | succ k ih =>
    show ((({ x with oth := l } : Sp).side k (({ x with oth := l } : Sp).out k).1 (({ x with oth := l } : Sp).out k).2).O, some (({ x with oth := l } : Sp).out k).1) = ((x.side k (x.out k).1 (x.out k).2).O, some (x.out k).1)
    rw [ih]
    rfl

/-- The other direction of a case. -/
theorem back_o {x y : Cs} (hx : x.Ok) (hs : x.s < x.c.N) (hd : x.d = 1) (hy : y = { x with d := -1 }) (k : Nat) : y.sp.o k = x.sp.back.o k := by
  have e : y.sp = ({ x.sp.back with oth := x.sends.getD 1 [] } : Sp) := by
    subst hy
    show (⟨x.c, x.f, x.r, x.s, -1, lastI (owners x.c x.s) (-1), _, _, _, _, _⟩ : Sp) = ⟨x.c, x.f, x.r, x.s, -1, lastI (owners x.c x.s) x.d, _, _, _, _, _⟩
    have h1 := own_one x.c x.s hx.s0 hs
    congr 1
    · rw [h1]; unfold lastI; split <;> split <;> rfl
    · show (if (-1 : Int) < 0 then x.sends.getD 0 [] else x.sends.getD ((owners x.c x.s).length - 1) []) = (if x.d < 0 then x.sends.getD 0 [] else x.sends.getD ((owners x.c x.s).length - 1) [])
      rw [h1]; split <;> split <;> rfl
  have := Sp.oth_irr x.sp.back (x.sends.getD 1 []) (Cs.sp_pair hx hs) k
  unfold Sp.o
  rw [e, this]

/-- A dead link: each node has all, or nothing, in either direction, and all in one at least. -/
theorem link_end {x y : Cs} (hx : x.Ok) (hs : x.s < x.c.N) (hd : x.d = 1) (hy : y = { x with d := -1 }) (hoy : y.Ok) (ht : x.st = List.replicate x.c.N.toNat 4) (hv : x.dv = List.replicate x.c.N.toNat 0) (hK : x.f.K = 2) (hA : x.f.A = []) (a0 : 0 ≤ x.f.At) (a1 : x.f.At < 2 * x.c.N) (i : Nat) (hi : (i : Int) < x.c.N) :
    ((x.end i).O = x.sends.getD 0 [] ∨ (x.end i).O = []) ∧ ((y.end i).O = x.sends.getD 0 [] ∨ (y.end i).O = []) ∧ ((x.end i).O = x.sends.getD 0 [] ∨ (y.end i).O = x.sends.getD 0 []) := by
  have n6 := hx.c.n6
  have hys : y.s < y.c.N := by subst hy; exact hs
  have ok := Cs.sp_ok hx hs
  have okb := Cs.sp_ok hoy hys
  have hp := Cs.sp_pair hx hs
  have on := calm_on hx hs ht hv
  have onb : y.sp.On := calm_on hoy hys (by subst hy; exact ht) (by subst hy; exact hv)
  have on2 : x.sp.back.On := by
    have e0 : ∀ k, y.sp.nd k = x.sp.back.nd k := by
      intro k
      subst hy
      show (lastI (owners x.c x.s) (-1) + -1 * k) % x.c.N = (lastI (owners x.c x.s) x.d + -1 * k) % x.c.N
      rw [own_one x.c x.s hx.s0 hs]
      have : lastI [x.s] (-1) = lastI [x.s] x.d := by unfold lastI; split <;> split <;> rfl
      rw [this]
    have es : y.sp.st = x.sp.back.st := by subst hy; rfl
    have ed : y.sp.dv = x.sp.back.dv := by subst hy; rfl
    have ec : y.sp.c = x.sp.back.c := by subst hy; rfl
    refine ⟨fun k => by rw [← e0, ← es]; exact onb.on k, ?_⟩
    rw [← e0, ← es, ← ed, ← ec]
    exact onb.adm
  have hd' : x.sp.d = 1 := hd
  have hK' : x.sp.f.K = 2 := hK
  have hA' : x.sp.f.A = [] := hA
  have sn := Cs.sp_snd hx hs
  obtain ⟨m, hm, e, hdm, hO, _, _⟩ := own_end hx hs i hi
  obtain ⟨q, hq, eq, hdq, hO2, _, _⟩ := own_end hoy hys i (by subst hy; exact hi)
  have hcy : y.c = x.c := by subst hy; rfl
  have hsy : y.s = x.s := by subst hy; rfl
  have hdy : y.d = -1 := by subst hy; rfl
  rw [hO, hO2, back_o hx hs hd hy, ← sn]
  have two := Sp.two ok hp hA' m
  have twob : x.sp.back.o q = x.sp.snd ∨ x.sp.back.o q = [] := Sp.two (Sp.back_ok ok) hp hA' q
  refine ⟨two, twob, ?_⟩
  rcases Nat.eq_zero_or_pos m with z | z
  · left; rw [z]; rfl
  · have h := Sp.dead_link ok hp hd' on on2 hK' a0 a1 m hm z
    rcases h with h | h
    · exact .inl h
    · right
      have : q = (x.c.N - m).toNat := by
        have e1 : distI x.c.N x.s i x.d = m := hdm
        have e2 : distI x.c.N x.s i (-1) = q := by rw [hcy, hsy, hdy] at hdq; exact hdq
        unfold distI at e1 e2
        rw [hd, if_neg (by omega)] at e1
        rw [if_pos (by omega)] at e2
        have e3 : ((i : Int) - x.s) % x.c.N + (x.s - (i : Int)) % x.c.N = x.c.N ∨ ((i : Int) - x.s) % x.c.N = 0 := by
          have hs0 := hx.s0
          rcases Int.lt_or_le (i : Int) x.s with g | g
          · left
            rw [show (i : Int) - x.s = -(x.s - i) by omega, Int.emod_eq_of_lt (a := x.s - i) (by omega) (by omega), ← emod_neg x.c.N (-(x.s - (i : Int))) (by omega) (by omega)]
            omega
          · rcases (by omega : (i : Int) = x.s ∨ x.s < i) with g2 | g2
            · right; rw [g2]; simp
            · left
              rw [Int.emod_eq_of_lt (a := (i : Int) - x.s) (by omega) (by omega), show x.s - (i : Int) = -((i : Int) - x.s) by omega, ← emod_neg x.c.N (-((i : Int) - x.s)) (by omega) (by omega)]
              omega
        omega
      rw [this]
      exact h

end Go.Proofs.YthhmedlefahccaaGreatDoor
/-
  A case that a call answered, laid into a new box.
-/
namespace Go.Proofs.YthhmedlefahccaaGreatDoor
open Go.RowKit Plait
set_option maxRecDepth 100000
set_option linter.unusedVariables false
set_option linter.unusedSimpArgs false

def zeroCs : Array Value := #[.int .i64 0, .int .i64 0, .int .i64 0, .int .i64 0, .int .i64 0, .slice none 0 0, .int .i64 0, .int .i64 0, .int .i64 0, .int .i64 0, .slice none 0 0, .slice none 0 0, .int .i64 0, .int .i64 0, .int .i64 0, .slice none 0 0, .slice none 0 0, .slice none 0 0]

theorem run_alloc_case (ρ : Operand → Value) (o : Oper) (ho : o.op = .alloc 37) (w : World) : (execOp ρ o).run Tryz.prog w = .ok (.value (.pointer (some ⟨w.heap.size, 0, none⟩))) (w.alloc (.cells zeroCs 37)) := by
  unfold execOp zeroCs
  rw [ho]
  go_simp

theorem wpList_case {ops : Array Oper} {rest : List Oper} {o1 o2 : Oper} {a : Act} {w : World} {Q : Exit → Act → World → Prop} (t v : Tmp) (cs : Array Value) (g1 : o1.guard = none) (g2 : o2.guard = none) (e1 : o1.op = .alloc 37) (e2 : o2.op = .store 37 (.tmp t) (.tmp v)) (d1 : o1.dst = some t) (d2 : o2.dst = none)
    (hv : a.eval (.tmp v) = .agg cs) (hs : cs.size = 18) (h1 : cs.all (·.oneCell') = true) (ht : t < a.tmps.size) (hne : t ≠ v)
    (h : wpList Tryz.prog ops Q rest (a.put (some t) (.pointer (some ⟨w.heap.size, 0, none⟩))) (w.alloc (.cells cs 37))) :
    wpList Tryz.prog ops Q (o1 :: o2 :: rest) a w := by
  refine Great.wpList_allocTo g1 (some t) d1 _ _ (run_alloc_case _ _ e1 w) ?_
  refine wpList_store_row g2 37 (.tmp t) (.tmp v) e2 w.heap.size cs (eval_put_same a t _ ht) ?_ 37 zeroCs (heap_alloc_last w _) ?_ ?_ h1 ?_
  · rw [eval_put_other _ _ _ _ (by intro e; injection e with e; exact hne e)]
    exact hv
  · rw [hs]; kernel_rfl
  · rw [hs]; rfl
  · rw [d2, World.setRow_alloc_new]
    exact h

/-- Behind a call: the operations that are left. -/
theorem at_K {ops : Array Oper} {rest : List Oper} {Q : Exit → Act → World → Prop} {K : Act → World → Prop} (h : ∀ a w, wpList Tryz.prog ops Q rest a w → K a w) {a : Act} {w : World} (g : wpList Tryz.prog ops Q rest a w) : K a w := h a w g

end Go.Proofs.YthhmedlefahccaaGreatDoor
/-
  Rows of a case that are changed; slices of truth values; nodes that are off.
-/
namespace Go.Proofs.YthhmedlefahccaaGreatDoor
open Go.RowKit Plait
set_option maxRecDepth 100000
set_option linter.unusedVariables false

/-- A slice of truth values that came in. -/
def RowBl (w : World) (a : Option Addr) (bs : List Bool) : Prop :=
  bs.length ≤ 9223372036854775807 ∧
  (bs = [] ∨ ∃ b off : Nat, a = some ⟨b, off, none⟩ ∧ b < w.heap.size ∧ ∀ i (h : i < bs.length), w.cell? ⟨b, off + i, none⟩ = some (.bool bs[i]))
theorem RowBl.later {w w1 : World} {a : Option Addr} {bs : List Bool} (h : RowBl w a bs) (hb : Below w.heap.size w w1) : RowBl w1 a bs := by
  obtain ⟨h1, h3⟩ := h
  refine ⟨h1, ?_⟩
  rcases h3 with h3 | ⟨b, off, e, hlt, hc⟩
  · exact .inl h3
  · exact .inr ⟨b, off, e, Nat.lt_of_lt_of_le hlt hb.size, fun i hi => by rw [hb.cell (p := ⟨b, off + i, none⟩) hlt]; exact hc i hi⟩
theorem RowBl.get {w : World} {a : Option Addr} {bs : List Bool} (h : RowBl w a bs) (k : Nat) (hk : k < bs.length) :
    ∃ b off : Nat, a = some ⟨b, off, none⟩ ∧ b < w.heap.size ∧ w.cell? ⟨b, off + k, none⟩ = some (.bool bs[k]) := by
  obtain ⟨_, h3⟩ := h
  rcases h3 with h3 | ⟨b, off, e, hlt, hc⟩
  · rw [h3] at hk; simp at hk
  · exact ⟨b, off, e, hlt, hc k hk⟩
theorem rowBl_nil (w : World) : ∃ bs : List Bool, 0 = bs.length ∧ RowBl w none bs := ⟨[], rfl, by simp, .inl rfl⟩
theorem rowBl_of {w : World} {x : Addr} {len cap : Nat} {B : Nat → Bool} (hl : len ≤ cap) (hm : cap ≤ maxLen) (hcell : ∀ i, i < cap → w.cell? (x.add i) = some (.bool (B i))) :
    ∃ bs : List Bool, len = bs.length ∧ RowBl w (some x) bs := by
  refine ⟨(List.range len).map B, by simp, by simp; unfold maxLen at hm; omega, ?_⟩
  by_cases h0 : len = 0
  · left; rw [h0]; rfl
  · right
    obtain ⟨b, off, spot⟩ := x
    have hc := hcell 0 (by omega)
    have hspot : spot = none := by simpa [Addr.add] using World.cell?_spot hc
    subst hspot
    rw [addr_at] at hc
    refine ⟨b, off, rfl, World.block_lt_of_cell? _ _ hc, fun i hi => ?_⟩
    have hi' : i < len := by simpa using hi
    have := hcell i (by omega)
    rw [addr_at] at this
    rw [this]
    simp

/-- A row that the call made: where it lies. -/
theorem OwnI.at {base : Nat} {W : World} {a : Option Addr} {cap : Nat} {zs : List Int} (h : OwnI base W (.slice a zs.length cap) zs) (h0 : 0 < zs.length) :
    ∃ g, a = some ⟨g, 0, none⟩ ∧ base ≤ g ∧ g < W.heap.size ∧ (∀ i (hi : i < zs.length), W.cell? ⟨g, i, none⟩ = some (.int .i64 zs[i])) ∧ ∀ i, W.frozen? ⟨g, i, none⟩ = false := by
  rcases h.2 with ⟨_, hn⟩ | ⟨g, c, cur, hv, hb, hg, hc, hm, hs, ht⟩
  · omega
  · injection hv with hv
    refine ⟨g, hv, hb, (Blk.lt hg), fun i hi => ?_, Blk.frozen hg⟩
    have hi2 : i < cur.size := by rw [hs]; omega
    have ht2 : (cur.toList.take (zs.length * 1))[i]? = (zs.map (Value.int .i64))[i]? := by rw [ht]
    rw [List.getElem?_take_of_lt (by omega), List.getElem?_map, List.getElem?_eq_getElem hi] at ht2
    have hb2 : W.cell? ⟨g, i, none⟩ = cur[i]? := Blk.at hg i
    rw [hb2, ← Array.getElem?_toList, ht2]
    rfl

/-- One of its numbers laid anew. -/
theorem OwnI.put {base : Nat} {W : World} {g cap : Nat} {zs : List Int} (h : OwnI base W (.slice (some ⟨g, 0, none⟩) zs.length cap) zs) (i : Nat) (hi : i < zs.length) (v : Int) :
    OwnI base (W.setCell ⟨g, i, none⟩ (.int .i64 v)) (.slice (some ⟨g, 0, none⟩) (zs.set i v).length cap) (zs.set i v) := by
  obtain ⟨h1, h2⟩ := h
  refine ⟨by simp, ?_⟩
  rcases h2 with ⟨hv, hn⟩ | ⟨g', c, cur, hv, hb, hg, hc, hm, hs, ht⟩
  · injection hv with hv; cases hv
  · injection hv with hv hv2 hv3
    injection hv with hv
    injection hv with hv
    subst hv hv3
    refine .inr ⟨g, cap, cur.setIfInBounds i (.int .i64 v), by simp, hb, ?_, by simpa using hc, hm, by simpa using hs, ?_⟩
    · exact Blk.set (w := W) (t := 3) hg i (.int .i64 v)
    · rw [List.length_set, Array.toList_setIfInBounds, List.take_set, ht, List.map_set]

theorem Cs.Ok.withRows {x : Cs} (h : x.Ok) (st dv : List Int) (l1 : st.length = x.st.length) (l2 : dv.length = x.dv.length) : ({ x with st := st, dv := dv } : Cs).Ok :=
  ⟨h.c, h.lA, h.t, h.r0, h.r1, h.s0, h.s1, h.d, h.sl, h.sb, h.sk, by show (st.length : Int) = _; rw [l1]; exact h.tl, by show (dv.length : Int) = _; rw [l2]; exact h.vl⟩

/-- The states with some nodes off: of the first k. -/
def stOff (bs : List Bool) (s : Int) (N k : Nat) : List Int := (List.range N).map fun i => if i < k ∧ bs.getD i false = true ∧ (i : Int) ≠ s then 0 else 4
theorem stOff_len (bs : List Bool) (s : Int) (N k : Nat) : (stOff bs s N k).length = N := by simp [stOff]
theorem stOff_zero (bs : List Bool) (s : Int) (N : Nat) : stOff bs s N 0 = List.replicate N 4 := by
  apply List.ext_getElem
  · simp [stOff]
  · intro i h1 h2
    simp [stOff]
theorem stOff_yes (bs : List Bool) (s : Int) (N k : Nat) (hk : k < N) (h : bs.getD k false = true) (hs : (k : Int) ≠ s) : stOff bs s N (k + 1) = (stOff bs s N k).set k 0 := by
  apply List.ext_getElem
  · simp [stOff]
  · intro i h1 h2
    rw [List.getElem_set]
    simp only [stOff, List.getElem_map, List.getElem_range]
    by_cases e : k = i
    · subst e
      rw [if_pos rfl, if_pos ⟨by omega, h, hs⟩]
    · rw [if_neg e]
      by_cases q : i < k
      · simp only [show i < k + 1 by omega, q, true_and]
      · rw [if_neg (by omega), if_neg (by omega)]
theorem stOff_no (bs : List Bool) (s : Int) (N k : Nat) (h : bs.getD k false = false ∨ (k : Int) = s) : stOff bs s N (k + 1) = stOff bs s N k := by
  apply List.ext_getElem
  · simp [stOff]
  · intro i h1 h2
    simp only [stOff, List.getElem_map, List.getElem_range]
    by_cases e : k = i
    · subst e
      rw [if_neg (by rintro ⟨_, q1, q2⟩; rcases h with q | q; rw [q] at q1; cases q1; exact q2 q), if_neg (by omega)]
    · by_cases q : i < k
      · simp only [show i < k + 1 by omega, q, true_and]
      · rw [if_neg (by omega), if_neg (by omega)]

/-- Without a locus: what the next one passes on. -/
theorem off_next {x : Sp} (h : x.Ok) (hp : x.pair = false) (hK : x.f.K ≠ 1) (hK2 : x.f.K ≠ 2) (hA : x.f.A = []) (hg : admitB x.c (x.st (x.nd 1)) (x.dv (x.nd 1)) = true ∨ x.st (x.nd 1) = 0) (k : Nat) :
    x.o (k + 1) = if x.st (x.nd ((k : Int) + 1)) = 0 then [] else x.o k := by
  obtain ⟨h1, h2⟩ := Sp.off h hp hK hK2 hA hg
  by_cases hz : x.st (x.nd ((k : Int) + 1)) = 0
  · rw [if_pos hz]
    exact h2 (k + 1) k (by omega) hz
  · rw [if_neg hz]
    by_cases hex : ∃ m, m < k ∧ x.st (x.nd ((m : Int) + 1)) = 0
    · obtain ⟨m, hm, hmz⟩ := hex
      rw [h2 (k + 1) m (by omega) hmz, h2 k m hm hmz]
    · have hall : ∀ j : Nat, j < k → x.st (x.nd ((j : Int) + 1)) ≠ 0 := fun j hj e => hex ⟨j, hj, e⟩
      rw [h1 k hall, h1 (k + 1) (fun j hj => by
        rcases (by omega : j < k ∨ j = k) with q | q
        · exact hall j q
        · subst q; exact hz)]

theorem sp_nd {x : Cs} (h : x.Ok) (hs : x.s < x.c.N) (k : Int) : x.sp.nd k = (x.s + x.d * k) % x.c.N := by
  show (lastI (owners x.c x.s) x.d + x.d * k) % x.c.N = _
  rw [own_one x.c x.s h.s0 hs]
  have : lastI [x.s] x.d = x.s := by unfold lastI; split <;> rfl
  rw [this]

/-- A node's own slot without a locus: what the node k steps on had. -/
theorem off_facts {x : Cs} (h : x.Ok) (hs : x.s < x.c.N) (hK : x.f.K = 0) (hA : x.f.A = []) (hv : x.dv = List.replicate x.c.N.toNat 0) (h04 : ∀ z ∈ x.st, z = 0 ∨ z = 4) :
    x.sp.o 0 = x.sends.getD 0 [] ∧ (∀ k : Nat, (k : Int) < x.c.N → (x.end ((x.s + x.d * (k : Int)) % x.c.N).toNat).O = x.sp.o k ∧ (x.end ((x.s + x.d * (k : Int)) % x.c.N).toNat).F = k) ∧
      ∀ k : Nat, x.sp.o (k + 1) = if x.st.getD ((x.s + x.d * ((k : Int) + 1)) % x.c.N).toNat 0 = 0 then [] else x.sp.o k := by
  have ok := Cs.sp_ok h hs
  have n6 := h.c.n6
  refine ⟨Cs.sp_snd h hs, fun k hk => ?_, fun k => ?_⟩
  · have := end_own (f := x.f) (r := x.r) (st := x.st) (dv := x.dv) (h.call (by rw [own_one x.c x.s h.s0 hs]; simp)) hs k hk
    have e : (spOf x.c x.f x.r x.s x.d x.sends x.st x.dv).nd k = (x.s + x.d * (k : Int)) % x.c.N := sp_nd h hs k
    rw [e] at this
    exact ⟨this.1, this.2.1⟩
  · have hg : admitB x.sp.c (x.sp.st (x.sp.nd 1)) (x.sp.dv (x.sp.nd 1)) = true ∨ x.sp.st (x.sp.nd 1) = 0 := by
      have i := x.sp.nd_in ok 1
      have i1 : x.sp.nd 1 < x.c.N := i.2
      have l : (x.sp.nd 1).toNat < x.c.N.toNat := by omega
      have hdv : x.sp.dv (x.sp.nd 1) = 0 := by
        show x.dv.getD (x.sp.nd 1).toNat 0 = 0
        rw [hv, List.getD_eq_getElem?_getD, List.getElem?_replicate_of_lt l]; rfl
      have hst : x.sp.st (x.sp.nd 1) = 0 ∨ x.sp.st (x.sp.nd 1) = 4 := by
        show x.st.getD (x.sp.nd 1).toNat 0 = 0 ∨ x.st.getD (x.sp.nd 1).toNat 0 = 4
        rw [List.getD_eq_getElem?_getD]
        cases hq : x.st[(x.sp.nd 1).toNat]? with
        | none => left; rfl
        | some z => exact h04 z (List.mem_of_getElem? hq)
      rcases hst with e | e
      · exact .inr e
      · left
        rw [e, hdv]
        have p0 := h.c.p0; have e0 := h.c.e0; have g0 := h.c.g0
        show admitB x.c 4 0 = true
        unfold admitB
        have : windowI x.c = 2 * x.c.Pi := rfl
        simp
        omega
    have hK' : x.sp.f.K = 0 := hK
    have := off_next ok (Cs.sp_pair h hs) (by omega) (by omega) hA hg k
    rw [this, sp_nd h hs]
    rfl

theorem stOff_04 (bs : List Bool) (s : Int) (N k : Nat) : ∀ z ∈ stOff bs s N k, z = 0 ∨ z = 4 := by
  intro z hz
  unfold stOff at hz
  obtain ⟨i, _, rfl⟩ := List.mem_map.1 hz
  split
  · exact .inl rfl
  · exact .inr rfl

end Go.Proofs.YthhmedlefahccaaGreatDoor
/-
  An owner that is the locus.
-/
namespace Go.Proofs.YthhmedlefahccaaGreatDoor
open Go.RowKit Plait
set_option maxRecDepth 100000
set_option linter.unusedVariables false

theorem make_acts (c : Cf) (f : Fa) : (makeL c f).A.length ≤ 10 ∧ ∀ a ∈ (makeL c f).A, a.T.length ≤ 300 := by
  refine ⟨by show ((f.A.take 10).map cutA).length ≤ 10; simp; omega, fun a ha => ?_⟩
  obtain ⟨b, _, rfl⟩ := List.mem_map.1 (show a ∈ (f.A.take 10).map cutA from ha)
  show (b.T.take 300).length ≤ 300
  rw [List.length_take]; omega

/-- What the node k steps on had. -/
theorem own_at {x : Cs} (h : x.Ok) (hs : x.s < x.c.N) (k : Nat) (hk : (k : Int) < x.c.N) :
    (x.end ((x.s + x.d * (k : Int)) % x.c.N).toNat).O = x.sp.o k ∧ (0 < k → x.end ((x.s + x.d * (k : Int)) % x.c.N).toNat = x.sp.sd (k - 1)) := by
  have := end_own (f := x.f) (r := x.r) (st := x.st) (dv := x.dv) (h.call (by rw [own_one x.c x.s h.s0 hs]; simp)) hs k hk
  have e : (spOf x.c x.f x.r x.s x.d x.sends x.st x.dv).nd k = (x.s + x.d * (k : Int)) % x.c.N := sp_nd h hs k
  rw [e] at this
  exact ⟨this.1, this.2.2⟩

/-- SpreadOwner: all two or more away pass on the same. -/
theorem owner_end {x : Cs} (h : x.Ok) (hs : x.s < x.c.N) (ht : x.st = List.replicate x.c.N.toNat 4) (hK : x.f.K = 1) (hAt : x.f.At = x.s) :
    (x.end ((x.s + x.d * 1) % x.c.N).toNat).O = (x.end ((x.s + x.d * 1) % x.c.N).toNat).D ∧
    ∀ k : Nat, 2 ≤ k → (k : Int) < x.c.N → (x.end ((x.s + x.d * (k : Int)) % x.c.N).toNat).O = common (x.end ((x.s + x.d * 1) % x.c.N).toNat).D (x.end ((x.s + x.d * 2) % x.c.N).toNat).S := by
  have n6 := h.c.n6
  have ok := Cs.sp_ok h hs
  have hon : ∀ k : Int, x.sp.st (x.sp.nd k) ≠ 0 := by
    intro k
    have i := x.sp.nd_in ok k
    have i1 : x.sp.nd k < x.c.N := i.2
    have l : (x.sp.nd k).toNat < x.c.N.toNat := by omega
    show x.st.getD (x.sp.nd k).toNat 0 ≠ 0
    rw [ht, List.getD_eq_getElem?_getD, List.getElem?_replicate_of_lt l]
    decide
  have h0 := Cs.sp_nd0 h hs
  obtain ⟨o1, o2⟩ := Sp.owner ok (Cs.sp_pair h hs) hK (by rw [h0]; exact hAt) hon
  have e1 := own_at h hs 1 (by omega)
  have e2 := own_at h hs 2 (by omega)
  have f1 := e1.2 (by omega)
  have f2 := e2.2 (by omega)
  rw [show ((1 : Nat) : Int) = 1 from rfl] at e1 f1
  rw [show ((2 : Nat) : Int) = 2 from rfl] at e2 f2
  refine ⟨?_, fun k k2 hk => ?_⟩
  · rw [e1.1, o1, f1]
  · rw [(own_at h hs k hk).1, o2 k k2 hk, f1, f2]

end Go.Proofs.YthhmedlefahccaaGreatDoor

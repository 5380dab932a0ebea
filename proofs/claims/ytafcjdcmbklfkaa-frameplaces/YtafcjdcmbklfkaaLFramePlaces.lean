/-
  FramePlaces' walk.
-/
import Derived.Test.YtafcjdcmbklfkaaLaw53
import Derived.Test.YtafcjdcmbklfkaaSlots3
namespace Go.Proofs.Ytafcjdcmbklfkaa
open Go.RowKit Plait
set_option linter.unusedVariables false
set_option linter.unusedSimpArgs false

theorem textF_head (g : Fr) : ∃ r, textF g = bitsL g.K 2 ++ (bitsL g.R 16 ++ (bitsL g.S 6 ++ (bitsL g.P.K 2 ++ (bitsL g.P.V 8 ++ r)))) :=
  ⟨g.E.flatMap itBits ++ (bitsL (sumI (frBits g)) 16 ++ [35]), by simp [textF, wrapL, frBits, frHead, itBits]⟩
theorem part_at (A B C : List UInt8) (n m : Nat) (h1 : A.length = n) (h2 : B.length = m) : ((A ++ (B ++ C)).drop n).take m = B := by
  rw [List.drop_left' h1, List.take_left' h2]
theorem textF_places (g : Fr) : (textF g).take 2 = bitsL g.K 2 ∧ ((textF g).drop 2).take 16 = bitsL g.R 16 ∧ ((textF g).drop 18).take 6 = bitsL g.S 6 ∧ ((textF g).drop 24).take 2 = bitsL g.P.K 2 ∧ ((textF g).drop 26).take 8 = bitsL g.P.V 8 := by
  obtain ⟨r, hr⟩ := textF_head g
  rw [hr]
  have l2 := bitsL_length g.K 2
  have l16 := bitsL_length g.R 16
  have l6 := bitsL_length g.S 6
  have lk := bitsL_length g.P.K 2
  have lv := bitsL_length g.P.V 8
  refine ⟨List.take_left' l2, part_at _ _ _ 2 16 l2 l16, ?_, ?_, ?_⟩
  · rw [← List.append_assoc]
    exact part_at _ _ _ 18 6 (by rw [List.length_append, l2, l16]) l6
  · rw [← List.append_assoc, ← List.append_assoc]
    exact part_at _ _ _ 24 2 (by rw [List.length_append, List.length_append, l2, l16, l6]) lk
  · rw [← List.append_assoc, ← List.append_assoc, ← List.append_assoc]
    exact part_at _ _ _ 26 8 (by rw [List.length_append, List.length_append, List.length_append, l2, l16, l6, lk]) lv
theorem textF_items (g : Fr) (i : Nat) (h : i < g.E.length) : ((textF g).drop (34 + 10 * i)).take 2 = bitsL g.E[i].K 2 ∧ ((textF g).drop (36 + 10 * i)).take 8 = bitsL g.E[i].V 8 := by
  have hE : g.E = g.E.take i ++ g.E[i] :: g.E.drop (i + 1) := by rw [List.getElem_cons_drop, List.take_append_drop]
  obtain ⟨r, hr⟩ : ∃ r, textF g = (frHead g ++ (g.E.take i).flatMap itBits) ++ (bitsL g.E[i].K 2 ++ (bitsL g.E[i].V 8 ++ r)) := by
    refine ⟨(g.E.drop (i + 1)).flatMap itBits ++ (bitsL (sumI (frBits g)) 16 ++ [35]), ?_⟩
    unfold textF wrapL
    have : frBits g = frHead g ++ ((g.E.take i).flatMap itBits ++ (itBits g.E[i] ++ (g.E.drop (i + 1)).flatMap itBits)) := by
      unfold frBits
      congr 1
      have := congrArg (fun l => List.flatMap itBits l) hE
      simp only [List.flatMap_append, List.flatMap_cons] at this
      exact this
    generalize bitsL (sumI (frBits g)) 16 = S
    rw [this]
    simp [itBits]
  have l1 : (frHead g ++ (g.E.take i).flatMap itBits).length = 34 + 10 * i := by
    rw [List.length_append, frHead_length, items_length, List.length_take, Nat.min_eq_left (by omega)]
  have lk := bitsL_length g.E[i].K 2
  rw [hr]
  refine ⟨part_at _ _ _ _ 2 l1 lk, ?_⟩
  rw [← List.append_assoc]
  exact part_at _ _ _ _ 8 (by rw [List.length_append, l1, lk]; omega) (bitsL_length _ _)

/-- The loop over the items. -/
def PlacesTo (g : Fr) (ga : Option Addr) (gc gb : Nat) (w : World) (i : Value) (wx : World) : Prop :=
  ∃ k : Nat, k ≤ g.E.length ∧ i = .int .i64 k ∧ Below w.heap.size w wx ∧ Blk wx gb 29 (frBox g ga gc) ∧ RowT wx ga g.E

set_option maxRecDepth 100000 in
set_option maxHeartbeats 6400000 in
theorem framePlaces_walk (c : Cf) (a : Option Addr) (cap : Nat) (f : Fr) (fa : Option Addr) (fc : Nat) (na : Option Addr) (ns : List Int) (nc : Nat) (w : World) (hrow : Row w a c.P) (iN : inI c.N) (iP : inI c.Pi) (iE : inI c.E) (iG : inI c.G) (iF : inI c.F)
    (hfE : RowT w fa f.E) (iK : inI f.K) (iR : inI f.R) (iS : inI f.S) (iQ : inI f.P.K) (iV : inI f.P.V) (hns : Row w na ns) :
    Calls Try.prog 9 #[.agg #[.int .i64 c.N, .int .i64 c.Pi, .int .i64 c.E, .int .i64 c.G, .int .i64 c.F, .slice a c.P.length cap], .agg #[.int .i64 f.K, .int .i64 f.R, .int .i64 f.S, .int .i64 f.P.K, .int .i64 f.P.V, .slice fa f.E.length fc], .slice na ns.length nc] w fun e w' => e = .returned (.bool true) ∧ Below w.heap.size w w' := by
  have hB : Below w.heap.size w ((w.alloc (.cells #[.int .i64 c.N, .int .i64 c.Pi, .int .i64 c.E, .int .i64 c.G, .int .i64 c.F, .slice a c.P.length cap] 24)).alloc (.cells #[.int .i64 f.K, .int .i64 f.R, .int .i64 f.S, .int .i64 f.P.K, .int .i64 f.P.V, .slice fa f.E.length fc] 29)) := (alloc_below w _).alloc (by simp) _
  have hC : Blk ((w.alloc (.cells #[.int .i64 c.N, .int .i64 c.Pi, .int .i64 c.E, .int .i64 c.G, .int .i64 c.F, .slice a c.P.length cap] 24)).alloc (.cells #[.int .i64 f.K, .int .i64 f.R, .int .i64 f.S, .int .i64 f.P.K, .int .i64 f.P.V, .slice fa f.E.length fc] 29)) w.heap.size 24 (confBox c a cap) := (Blk.new w _ _).alloc _
  have hF : Blk ((w.alloc (.cells #[.int .i64 c.N, .int .i64 c.Pi, .int .i64 c.E, .int .i64 c.G, .int .i64 c.F, .slice a c.P.length cap] 24)).alloc (.cells #[.int .i64 f.K, .int .i64 f.R, .int .i64 f.S, .int .i64 f.P.K, .int .i64 f.P.V, .slice fa f.E.length fc] 29)) (w.heap.size + 1) 29 (frBox f fa fc) := Blk.newAt _ _ (by simp)
  go_enter Try.func9, Try.ntmps9
  go_wp2_with fail
  refine (known5_any _).mono ?_
  rintro e wn ⟨rfl, hb⟩
  replace hB := hB.trans (hb.mono hB.size)
  replace hC := hC.later hb
  replace hF := hF.later hb
  clear hb
  have qC := hC.at
  unfold confBox at qC
  go_wp2_with fail
  refine (make_any c a cap _ (hrow.later hB)).mono ?_
  rintro e wm ⟨da, dc, rfl, hrd, hfd, hb⟩
  replace hB := hB.trans (hb.mono hB.size)
  replace hF := hF.later hb
  clear hb qC hC hfd
  have hok := makeC_ok c
  generalize makeC c = d at *
  have hD : Blk (wm.alloc (.cells #[.int .i64 d.N, .int .i64 d.Pi, .int .i64 d.E, .int .i64 d.G, .int .i64 d.F, .slice da d.P.length dc] 24)) wm.heap.size 24 (confBox d da dc) := Blk.new wm _ _
  replace hB := hB.alloc hB.size (.cells #[.int .i64 d.N, .int .i64 d.Pi, .int .i64 d.E, .int .i64 d.G, .int .i64 d.F, .slice da d.P.length dc] 24)
  replace hF := hF.alloc (.cells #[.int .i64 d.N, .int .i64 d.Pi, .int .i64 d.E, .int .i64 d.G, .int .i64 d.F, .slice da d.P.length dc] 24)
  replace hrd := hrd.alloc (.cells #[.int .i64 d.N, .int .i64 d.Pi, .int .i64 d.E, .int .i64 d.G, .int .i64 d.F, .slice da d.P.length dc] 24)
  go_upto_region 4 with fail
  generalize wm.alloc (.cells #[.int .i64 d.N, .int .i64 d.Pi, .int .i64 d.E, .int .i64 d.G, .int .i64 d.F, .slice da d.P.length dc] 24) = wn at *
  generalize wm.heap.size = db at *
  have qD := hD.at
  unfold confBox at qD
  have qF := hF.at
  unfold frBox at qF
  go_wp2_with fail
  refine (make5_any d da dc f fa fc na ns nc _ hok (hns.later hB) iK iR iS iV).mono ?_
  rintro e wm ⟨ga, gc, rfl, hrg, hfg, hb⟩
  replace hB := hB.trans (hb.mono hB.size)
  replace hF := hF.later hb
  replace hD := hD.later hb
  replace hrd := hrd.later hb
  clear hb qD qF hfg
  have hokg := makeF_ok d f ns hok
  generalize makeF d f ns = g at *
  have hG : Blk (wm.alloc (.cells #[.int .i64 g.K, .int .i64 g.R, .int .i64 g.S, .int .i64 g.P.K, .int .i64 g.P.V, .slice ga g.E.length gc] 29)) wm.heap.size 29 (frBox g ga gc) := Blk.new wm _ _
  replace hB := hB.alloc hB.size (.cells #[.int .i64 g.K, .int .i64 g.R, .int .i64 g.S, .int .i64 g.P.K, .int .i64 g.P.V, .slice ga g.E.length gc] 29)
  replace hF := hF.alloc (.cells #[.int .i64 g.K, .int .i64 g.R, .int .i64 g.S, .int .i64 g.P.K, .int .i64 g.P.V, .slice ga g.E.length gc] 29)
  replace hD := hD.alloc (.cells #[.int .i64 g.K, .int .i64 g.R, .int .i64 g.S, .int .i64 g.P.K, .int .i64 g.P.V, .slice ga g.E.length gc] 29)
  replace hrd := hrd.alloc (.cells #[.int .i64 g.K, .int .i64 g.R, .int .i64 g.S, .int .i64 g.P.K, .int .i64 g.P.V, .slice ga g.E.length gc] 29)
  replace hrg := hrg.alloc (.cells #[.int .i64 g.K, .int .i64 g.R, .int .i64 g.S, .int .i64 g.P.K, .int .i64 g.P.V, .slice ga g.E.length gc] 29)
  go_upto_region 5 with fail
  generalize wm.alloc (.cells #[.int .i64 g.K, .int .i64 g.R, .int .i64 g.S, .int .i64 g.P.K, .int .i64 g.P.V, .slice ga g.E.length gc] 29) = wn at *
  generalize wm.heap.size = gb at *
  have h15 := (ok_small hok hokg).2.2.2.2.2
  have HT := Lib.hid (fun W (h : RowT W ga g.E) => fText_ok d da dc g ga gc W hok hokg h)
  have hl := textF_length g
  obtain ⟨P1, P2, P3, P4, P5⟩ := textF_places g
  have HI := Lib.hid (textF_items g)
  have HB := Lib.hid (fun (x : Int) (k : Nat) (h1 : 1 ≤ k) (h2 : k ≤ 62) => bitsI_of x k h1 h2)
  rw [← HB.out _ 2 (by omega) (by omega)] at P1
  rw [← HB.out _ 16 (by omega) (by omega)] at P2
  rw [← HB.out _ 6 (by omega) (by omega)] at P3
  rw [← HB.out _ 2 (by omega) (by omega)] at P4
  rw [← HB.out _ 8 (by omega) (by omega)] at P5
  generalize textF g = l at *
  have p1 : (l.take 2 == bitsI g.K 2) = true := by rw [P1]; simp
  have p2 : ((l.drop 2).take 16 == bitsI g.R 16) = true := by rw [P2]; simp
  have p3 : ((l.drop 18).take 6 == bitsI g.S 6) = true := by rw [P3]; simp
  have p4 : ((l.drop 24).take 2 == bitsI g.P.K 2) = true := by rw [P4]; simp
  have p5 : ((l.drop 26).take 8 == bitsI g.P.V 8) = true := by rw [P5]; simp
  clear P1 P2 P3 P4 P5
  have HL := Lib.hid hl
  clear hl
  have qD := hD.at
  unfold confBox at qD
  have qG := hG.at
  unfold frBox at qG
  go_wp2_with fail
  refine (HT.out _ hrg).mono ?_
  rintro e wq ⟨rfl, hb⟩
  replace hB := hB.trans (hb.mono hB.size)
  replace hG := hG.later hb
  replace hrg := hrg.later hb
  clear hb qD qG hD hrd hF HT
  have l1 : 51 ≤ l.length := by have := HL.out; omega
  have l2 : l.length ≤ 201 := by have := HL.out; omega
  have m0 : (2 : Int) ≤ (l.length : Int) := by omega
  have m1 : (18 : Int) ≤ (l.length : Int) := by omega
  have m2 : (24 : Int) ≤ (l.length : Int) := by omega
  have m3 : (26 : Int) ≤ (l.length : Int) := by omega
  have m4 : (34 : Int) ≤ (l.length : Int) := by omega
  have n0 : 2 ≤ l.length := by omega
  have n1 : 18 ≤ l.length := by omega
  have n2 : 24 ≤ l.length := by omega
  have n3 : 26 ≤ l.length := by omega
  have n4 : 34 ≤ l.length := by omega
  have c1 : decide ((l.length : Int) < 51) = false := by simp; omega
  have c2 : decide (l.length < 51) = false := by simp; omega
  have z1 : IntKind.i64.wrap (10 * (g.E.length : Int)) = 10 * (g.E.length : Int) := wrap_in _ (by omega) (by omega)
  have z2 : IntKind.i64.wrap (51 + 10 * (g.E.length : Int)) = 51 + 10 * (g.E.length : Int) := wrap_in _ (by omega) (by omega)
  have c3 : ((l.length : Int) != 51 + 10 * (g.E.length : Int)) = false := by have := HL.out; simp; omega
  have HB2 := Lib.hid (fun W x k => rbits_any x k W)
  go_upto_region 6 with fail
  (try dsimp only [List.append])
  refine region_slots [some 22, some 23, some 24, some 25, some 26, some 27, some 28, some 29, some 30, some 31, some 32, some 33, some 34, some 35, some 36, some 37, some 38, some 39, some 40, some 41, some 42, some 43, some 44, some 45, some 46, some 47, some 48, some 49, some 50, some 51, some 52, some 53, some 54, some 55, some 56, some 57, some 58, some 59, some 60, some 61, some 62, some 63, some 64, some 65, some 66, some 67, some 68, some 69, some 70, some 71, some 72, some 73, some 74, some 75, some 76] [none, none, none, none, none, none, none, none, none, none, none, none, none, none, none, none, none, none, none, none, none, none, none, none, none, none, none, none, none, none, none, none, none, none, none, none, none, none, none, none, none, none, none, none, none, none, none, none, none, none, none, none, none, none, none] 118 (by kernel_rfl) (by kernel_rfl) rfl rfl ?_
  apply step_fix
  · intro a W Zs hS hFm hz hd
    have h9 := hFm.old 9 rfl
    conv at h9 => rhs; whnf
    replace h9 := ev_get hFm.size h9
    refine .inl ⟨wanted_none rfl _, fun K hK => ?_⟩
    have HK := Lib.hid hK
    clear hd hFm hK
    go_simp
    exact HK.out _ _ rfl (Below.refl _ _)
  simp only [List.nil_append, List.cons_append]
  apply step_fix
  · intro a W Zs hS hFm hz hd
    have h22 := ev_get hFm.size (hd 0 22 rfl rfl)
    refine .inl ⟨wanted_none rfl _, fun K hK => ?_⟩
    have HK := Lib.hid hK
    clear hd hFm hK
    go_simp
    exact HK.out _ _ rfl (Below.refl _ _)
  simp only [List.nil_append, List.cons_append]
  apply step_fix
  · intro a W Zs hS hFm hz hd
    have h23 := ev_get hFm.size (hd 1 23 rfl rfl)
    refine .inl ⟨wanted_none rfl _, fun K hK => ?_⟩
    have HK := Lib.hid hK
    clear hd hFm hK
    go_simp
    exact HK.out _ _ rfl (Below.refl _ _)
  simp only [List.nil_append, List.cons_append]
  apply step_fix
  · intro a W Zs hS hFm hz hd
    have h24 := ev_get hFm.size (hd 2 24 rfl rfl)
    refine .inl ⟨wanted_none rfl _, fun K hK => ?_⟩
    have HK := Lib.hid hK
    clear hd hFm hK
    go_simp
    exact HK.out _ _ rfl (Below.refl _ _)
  simp only [List.nil_append, List.cons_append]
  apply step_fix
  · intro a W Zs hS hFm hz hd
    have h9 := hFm.old 9 rfl
    conv at h9 => rhs; whnf
    replace h9 := ev_get hFm.size h9
    refine .inl ⟨wanted_at rfl rfl (hd 3 25 rfl rfl), fun K hK => ?_⟩
    have HK := Lib.hid hK
    clear hd hFm hK
    go_simp
    exact HK.out _ _ rfl (Below.refl _ _)
  simp only [List.nil_append, List.cons_append]
  apply step_fix
  · intro a W Zs hS hFm hz hd
    have h26 := ev_get hFm.size (hd 4 26 rfl rfl)
    refine .inl ⟨wanted_at rfl rfl (hd 3 25 rfl rfl), fun K hK => ?_⟩
    have HK := Lib.hid hK
    clear hd hFm hK
    go_simp
    exact HK.out _ _ rfl (Below.refl _ _)
  simp only [List.nil_append, List.cons_append]
  apply step_fix
  · intro a W Zs hS hFm hz hd
    have h8 := hFm.old 8 rfl
    conv at h8 => rhs; whnf
    replace h8 := ev_get hFm.size h8
    refine .inl ⟨wanted_at rfl rfl (hd 3 25 rfl rfl), fun K hK => ?_⟩
    have HK := Lib.hid hK
    clear hd hFm hK
    go_simp
    exact HK.out _ _ rfl (Below.refl _ _)
  simp only [List.nil_append, List.cons_append]
  apply step_fix
  · intro a W Zs hS hFm hz hd
    have h28 := ev_get hFm.size (hd 6 28 rfl rfl)
    have hq := (hG.drew1.later hS).at
    unfold frBox at hq
    refine .inl ⟨wanted_at rfl rfl (hd 3 25 rfl rfl), fun K hK => ?_⟩
    have HK := Lib.hid hK
    clear hd hFm hK
    go_simp
    exact HK.out _ _ rfl (Below.refl _ _)
  simp only [List.nil_append, List.cons_append]
  apply step_fix
  · intro a W Zs hS hFm hz hd
    have h29 := ev_get hFm.size (hd 7 29 rfl rfl)
    refine .inl ⟨wanted_at rfl rfl (hd 3 25 rfl rfl), fun K hK => ?_⟩
    have HK := Lib.hid hK
    clear hd hFm hK
    go_simp
    refine (HB2.out _ _ _).mono ?_
    rintro e W' ⟨rfl, rfl⟩
    exact HK.out _ _ rfl (Below.refl _ _)
  simp only [List.nil_append, List.cons_append]
  apply step_fix
  · intro a W Zs hS hFm hz hd
    have h27 := ev_get hFm.size (hd 5 27 rfl rfl)
    have h30 := ev_get hFm.size (hd 8 30 rfl rfl)
    refine .inl ⟨wanted_at rfl rfl (hd 3 25 rfl rfl), fun K hK => ?_⟩
    have HK := Lib.hid hK
    clear hd hFm hK
    go_simp
    exact HK.out _ _ rfl (Below.refl _ _)
  simp only [List.nil_append, List.cons_append]
  apply step_fix
  · intro a W Zs hS hFm hz hd
    have h25 := ev_get hFm.size (hd 3 25 rfl rfl)
    have h31 := ev_get hFm.size (hd 9 31 rfl rfl)
    refine .inl ⟨wanted_none rfl _, fun K hK => ?_⟩
    have HK := Lib.hid hK
    clear hd hFm hK
    go_simp
    exact HK.out _ _ rfl (Below.refl _ _)
  simp only [List.nil_append, List.cons_append]
  apply step_fix
  · intro a W Zs hS hFm hz hd
    have h32 := ev_get hFm.size (hd 10 32 rfl rfl)
    refine .inl ⟨wanted_none rfl _, fun K hK => ?_⟩
    have HK := Lib.hid hK
    clear hd hFm hK
    go_simp
    exact HK.out _ _ rfl (Below.refl _ _)
  simp only [List.nil_append, List.cons_append]
  apply step_fix
  · intro a W Zs hS hFm hz hd
    have h9 := hFm.old 9 rfl
    conv at h9 => rhs; whnf
    replace h9 := ev_get hFm.size h9
    refine .inl ⟨wanted_at rfl rfl (hd 11 33 rfl rfl), fun K hK => ?_⟩
    have HK := Lib.hid hK
    clear hd hFm hK
    go_simp
    exact HK.out _ _ rfl (Below.refl _ _)
  simp only [List.nil_append, List.cons_append]
  apply step_fix
  · intro a W Zs hS hFm hz hd
    have h34 := ev_get hFm.size (hd 12 34 rfl rfl)
    refine .inl ⟨wanted_at rfl rfl (hd 11 33 rfl rfl), fun K hK => ?_⟩
    have HK := Lib.hid hK
    clear hd hFm hK
    go_simp
    exact HK.out _ _ rfl (Below.refl _ _)
  simp only [List.nil_append, List.cons_append]
  apply step_fix
  · intro a W Zs hS hFm hz hd
    have h8 := hFm.old 8 rfl
    conv at h8 => rhs; whnf
    replace h8 := ev_get hFm.size h8
    refine .inl ⟨wanted_at rfl rfl (hd 11 33 rfl rfl), fun K hK => ?_⟩
    have HK := Lib.hid hK
    clear hd hFm hK
    go_simp
    exact HK.out _ _ rfl (Below.refl _ _)
  simp only [List.nil_append, List.cons_append]
  apply step_fix
  · intro a W Zs hS hFm hz hd
    have h36 := ev_get hFm.size (hd 14 36 rfl rfl)
    have hq := (hG.drew1.later hS).at
    unfold frBox at hq
    refine .inl ⟨wanted_at rfl rfl (hd 11 33 rfl rfl), fun K hK => ?_⟩
    have HK := Lib.hid hK
    clear hd hFm hK
    go_simp
    exact HK.out _ _ rfl (Below.refl _ _)
  simp only [List.nil_append, List.cons_append]
  apply step_fix
  · intro a W Zs hS hFm hz hd
    have h37 := ev_get hFm.size (hd 15 37 rfl rfl)
    refine .inl ⟨wanted_at rfl rfl (hd 11 33 rfl rfl), fun K hK => ?_⟩
    have HK := Lib.hid hK
    clear hd hFm hK
    go_simp
    refine (HB2.out _ _ _).mono ?_
    rintro e W' ⟨rfl, rfl⟩
    exact HK.out _ _ rfl (Below.refl _ _)
  simp only [List.nil_append, List.cons_append]
  apply step_fix
  · intro a W Zs hS hFm hz hd
    have h35 := ev_get hFm.size (hd 13 35 rfl rfl)
    have h38 := ev_get hFm.size (hd 16 38 rfl rfl)
    refine .inl ⟨wanted_at rfl rfl (hd 11 33 rfl rfl), fun K hK => ?_⟩
    have HK := Lib.hid hK
    clear hd hFm hK
    go_simp
    exact HK.out _ _ rfl (Below.refl _ _)
  simp only [List.nil_append, List.cons_append]
  apply step_fix
  · intro a W Zs hS hFm hz hd
    have h33 := ev_get hFm.size (hd 11 33 rfl rfl)
    have h39 := ev_get hFm.size (hd 17 39 rfl rfl)
    refine .inl ⟨wanted_none rfl _, fun K hK => ?_⟩
    have HK := Lib.hid hK
    clear hd hFm hK
    go_simp
    exact HK.out _ _ rfl (Below.refl _ _)
  simp only [List.nil_append, List.cons_append]
  apply step_fix
  · intro a W Zs hS hFm hz hd
    have h40 := ev_get hFm.size (hd 18 40 rfl rfl)
    refine .inl ⟨wanted_none rfl _, fun K hK => ?_⟩
    have HK := Lib.hid hK
    clear hd hFm hK
    go_simp
    exact HK.out _ _ rfl (Below.refl _ _)
  simp only [List.nil_append, List.cons_append]
  apply step_fix
  · intro a W Zs hS hFm hz hd
    have h9 := hFm.old 9 rfl
    conv at h9 => rhs; whnf
    replace h9 := ev_get hFm.size h9
    refine .inl ⟨wanted_at rfl rfl (hd 19 41 rfl rfl), fun K hK => ?_⟩
    have HK := Lib.hid hK
    clear hd hFm hK
    go_simp
    exact HK.out _ _ rfl (Below.refl _ _)
  simp only [List.nil_append, List.cons_append]
  apply step_fix
  · intro a W Zs hS hFm hz hd
    have h42 := ev_get hFm.size (hd 20 42 rfl rfl)
    refine .inl ⟨wanted_at rfl rfl (hd 19 41 rfl rfl), fun K hK => ?_⟩
    have HK := Lib.hid hK
    clear hd hFm hK
    go_simp
    exact HK.out _ _ rfl (Below.refl _ _)
  simp only [List.nil_append, List.cons_append]
  apply step_fix
  · intro a W Zs hS hFm hz hd
    have h8 := hFm.old 8 rfl
    conv at h8 => rhs; whnf
    replace h8 := ev_get hFm.size h8
    refine .inl ⟨wanted_at rfl rfl (hd 19 41 rfl rfl), fun K hK => ?_⟩
    have HK := Lib.hid hK
    clear hd hFm hK
    go_simp
    exact HK.out _ _ rfl (Below.refl _ _)
  simp only [List.nil_append, List.cons_append]
  apply step_fix
  · intro a W Zs hS hFm hz hd
    have h44 := ev_get hFm.size (hd 22 44 rfl rfl)
    have hq := (hG.drew1.later hS).at
    unfold frBox at hq
    refine .inl ⟨wanted_at rfl rfl (hd 19 41 rfl rfl), fun K hK => ?_⟩
    have HK := Lib.hid hK
    clear hd hFm hK
    go_simp
    exact HK.out _ _ rfl (Below.refl _ _)
  simp only [List.nil_append, List.cons_append]
  apply step_fix
  · intro a W Zs hS hFm hz hd
    have h45 := ev_get hFm.size (hd 23 45 rfl rfl)
    refine .inl ⟨wanted_at rfl rfl (hd 19 41 rfl rfl), fun K hK => ?_⟩
    have HK := Lib.hid hK
    clear hd hFm hK
    go_simp
    refine (HB2.out _ _ _).mono ?_
    rintro e W' ⟨rfl, rfl⟩
    exact HK.out _ _ rfl (Below.refl _ _)
  simp only [List.nil_append, List.cons_append]
  apply step_fix
  · intro a W Zs hS hFm hz hd
    have h43 := ev_get hFm.size (hd 21 43 rfl rfl)
    have h46 := ev_get hFm.size (hd 24 46 rfl rfl)
    refine .inl ⟨wanted_at rfl rfl (hd 19 41 rfl rfl), fun K hK => ?_⟩
    have HK := Lib.hid hK
    clear hd hFm hK
    go_simp
    exact HK.out _ _ rfl (Below.refl _ _)
  simp only [List.nil_append, List.cons_append]
  apply step_fix
  · intro a W Zs hS hFm hz hd
    have h41 := ev_get hFm.size (hd 19 41 rfl rfl)
    have h47 := ev_get hFm.size (hd 25 47 rfl rfl)
    refine .inl ⟨wanted_none rfl _, fun K hK => ?_⟩
    have HK := Lib.hid hK
    clear hd hFm hK
    go_simp
    exact HK.out _ _ rfl (Below.refl _ _)
  simp only [List.nil_append, List.cons_append]
  apply step_fix
  · intro a W Zs hS hFm hz hd
    have h48 := ev_get hFm.size (hd 26 48 rfl rfl)
    refine .inl ⟨wanted_none rfl _, fun K hK => ?_⟩
    have HK := Lib.hid hK
    clear hd hFm hK
    go_simp
    exact HK.out _ _ rfl (Below.refl _ _)
  simp only [List.nil_append, List.cons_append]
  apply step_fix
  · intro a W Zs hS hFm hz hd
    have h9 := hFm.old 9 rfl
    conv at h9 => rhs; whnf
    replace h9 := ev_get hFm.size h9
    refine .inl ⟨wanted_at rfl rfl (hd 27 49 rfl rfl), fun K hK => ?_⟩
    have HK := Lib.hid hK
    clear hd hFm hK
    go_simp
    exact HK.out _ _ rfl (Below.refl _ _)
  simp only [List.nil_append, List.cons_append]
  apply step_fix
  · intro a W Zs hS hFm hz hd
    have h50 := ev_get hFm.size (hd 28 50 rfl rfl)
    refine .inl ⟨wanted_at rfl rfl (hd 27 49 rfl rfl), fun K hK => ?_⟩
    have HK := Lib.hid hK
    clear hd hFm hK
    go_simp
    exact HK.out _ _ rfl (Below.refl _ _)
  simp only [List.nil_append, List.cons_append]
  apply step_fix
  · intro a W Zs hS hFm hz hd
    have h8 := hFm.old 8 rfl
    conv at h8 => rhs; whnf
    replace h8 := ev_get hFm.size h8
    refine .inl ⟨wanted_at rfl rfl (hd 27 49 rfl rfl), fun K hK => ?_⟩
    have HK := Lib.hid hK
    clear hd hFm hK
    go_simp
    exact HK.out _ _ rfl (Below.refl _ _)
  simp only [List.nil_append, List.cons_append]
  apply step_fix
  · intro a W Zs hS hFm hz hd
    have h52 := ev_get hFm.size (hd 30 52 rfl rfl)
    refine .inl ⟨wanted_at rfl rfl (hd 27 49 rfl rfl), fun K hK => ?_⟩
    have HK := Lib.hid hK
    clear hd hFm hK
    go_simp
    exact HK.out _ _ rfl (Below.refl _ _)
  simp only [List.nil_append, List.cons_append]
  apply step_fix
  · intro a W Zs hS hFm hz hd
    have h53 := ev_get hFm.size (hd 31 53 rfl rfl)
    have hq := (hG.drew1.later hS).at
    unfold frBox at hq
    refine .inl ⟨wanted_at rfl rfl (hd 27 49 rfl rfl), fun K hK => ?_⟩
    have HK := Lib.hid hK
    clear hd hFm hK
    go_simp
    exact HK.out _ _ rfl (Below.refl _ _)
  simp only [List.nil_append, List.cons_append]
  apply step_fix
  · intro a W Zs hS hFm hz hd
    have h54 := ev_get hFm.size (hd 32 54 rfl rfl)
    refine .inl ⟨wanted_at rfl rfl (hd 27 49 rfl rfl), fun K hK => ?_⟩
    have HK := Lib.hid hK
    clear hd hFm hK
    go_simp
    refine (HB2.out _ _ _).mono ?_
    rintro e W' ⟨rfl, rfl⟩
    exact HK.out _ _ rfl (Below.refl _ _)
  simp only [List.nil_append, List.cons_append]
  apply step_fix
  · intro a W Zs hS hFm hz hd
    have h51 := ev_get hFm.size (hd 29 51 rfl rfl)
    have h55 := ev_get hFm.size (hd 33 55 rfl rfl)
    refine .inl ⟨wanted_at rfl rfl (hd 27 49 rfl rfl), fun K hK => ?_⟩
    have HK := Lib.hid hK
    clear hd hFm hK
    go_simp
    exact HK.out _ _ rfl (Below.refl _ _)
  simp only [List.nil_append, List.cons_append]
  apply step_fix
  · intro a W Zs hS hFm hz hd
    have h49 := ev_get hFm.size (hd 27 49 rfl rfl)
    have h56 := ev_get hFm.size (hd 34 56 rfl rfl)
    refine .inl ⟨wanted_none rfl _, fun K hK => ?_⟩
    have HK := Lib.hid hK
    clear hd hFm hK
    go_simp
    exact HK.out _ _ rfl (Below.refl _ _)
  simp only [List.nil_append, List.cons_append]
  apply step_fix
  · intro a W Zs hS hFm hz hd
    have h57 := ev_get hFm.size (hd 35 57 rfl rfl)
    refine .inl ⟨wanted_none rfl _, fun K hK => ?_⟩
    have HK := Lib.hid hK
    clear hd hFm hK
    go_simp
    exact HK.out _ _ rfl (Below.refl _ _)
  simp only [List.nil_append, List.cons_append]
  apply step_fix
  · intro a W Zs hS hFm hz hd
    have h9 := hFm.old 9 rfl
    conv at h9 => rhs; whnf
    replace h9 := ev_get hFm.size h9
    refine .inl ⟨wanted_at rfl rfl (hd 36 58 rfl rfl), fun K hK => ?_⟩
    have HK := Lib.hid hK
    clear hd hFm hK
    go_simp
    exact HK.out _ _ rfl (Below.refl _ _)
  simp only [List.nil_append, List.cons_append]
  apply step_fix
  · intro a W Zs hS hFm hz hd
    have h59 := ev_get hFm.size (hd 37 59 rfl rfl)
    refine .inl ⟨wanted_at rfl rfl (hd 36 58 rfl rfl), fun K hK => ?_⟩
    have HK := Lib.hid hK
    clear hd hFm hK
    go_simp
    exact HK.out _ _ rfl (Below.refl _ _)
  simp only [List.nil_append, List.cons_append]
  apply step_fix
  · intro a W Zs hS hFm hz hd
    have h8 := hFm.old 8 rfl
    conv at h8 => rhs; whnf
    replace h8 := ev_get hFm.size h8
    refine .inl ⟨wanted_at rfl rfl (hd 36 58 rfl rfl), fun K hK => ?_⟩
    have HK := Lib.hid hK
    clear hd hFm hK
    go_simp
    exact HK.out _ _ rfl (Below.refl _ _)
  simp only [List.nil_append, List.cons_append]
  apply step_fix
  · intro a W Zs hS hFm hz hd
    have h61 := ev_get hFm.size (hd 39 61 rfl rfl)
    refine .inl ⟨wanted_at rfl rfl (hd 36 58 rfl rfl), fun K hK => ?_⟩
    have HK := Lib.hid hK
    clear hd hFm hK
    go_simp
    exact HK.out _ _ rfl (Below.refl _ _)
  simp only [List.nil_append, List.cons_append]
  apply step_fix
  · intro a W Zs hS hFm hz hd
    have h62 := ev_get hFm.size (hd 40 62 rfl rfl)
    have hq := (hG.drew1.later hS).at
    unfold frBox at hq
    refine .inl ⟨wanted_at rfl rfl (hd 36 58 rfl rfl), fun K hK => ?_⟩
    have HK := Lib.hid hK
    clear hd hFm hK
    go_simp
    exact HK.out _ _ rfl (Below.refl _ _)
  simp only [List.nil_append, List.cons_append]
  apply step_fix
  · intro a W Zs hS hFm hz hd
    have h63 := ev_get hFm.size (hd 41 63 rfl rfl)
    refine .inl ⟨wanted_at rfl rfl (hd 36 58 rfl rfl), fun K hK => ?_⟩
    have HK := Lib.hid hK
    clear hd hFm hK
    go_simp
    refine (HB2.out _ _ _).mono ?_
    rintro e W' ⟨rfl, rfl⟩
    exact HK.out _ _ rfl (Below.refl _ _)
  simp only [List.nil_append, List.cons_append]
  apply step_fix
  · intro a W Zs hS hFm hz hd
    have h60 := ev_get hFm.size (hd 38 60 rfl rfl)
    have h64 := ev_get hFm.size (hd 42 64 rfl rfl)
    refine .inl ⟨wanted_at rfl rfl (hd 36 58 rfl rfl), fun K hK => ?_⟩
    have HK := Lib.hid hK
    clear hd hFm hK
    go_simp
    exact HK.out _ _ rfl (Below.refl _ _)
  simp only [List.nil_append, List.cons_append]
  apply step_fix
  · intro a W Zs hS hFm hz hd
    have h58 := ev_get hFm.size (hd 36 58 rfl rfl)
    have h65 := ev_get hFm.size (hd 43 65 rfl rfl)
    refine .inl ⟨wanted_none rfl _, fun K hK => ?_⟩
    have HK := Lib.hid hK
    clear hd hFm hK
    go_simp
    exact HK.out _ _ rfl (Below.refl _ _)
  simp only [List.nil_append, List.cons_append]
  apply step_fix
  · intro a W Zs hS hFm hz hd
    have h66 := ev_get hFm.size (hd 44 66 rfl rfl)
    refine .inl ⟨wanted_none rfl _, fun K hK => ?_⟩
    have HK := Lib.hid hK
    clear hd hFm hK
    go_simp
    exact HK.out _ _ rfl (Below.refl _ _)
  simp only [List.nil_append, List.cons_append]
  apply step_fix
  · intro a W Zs hS hFm hz hd
    have h9 := hFm.old 9 rfl
    conv at h9 => rhs; whnf
    replace h9 := ev_get hFm.size h9
    refine .inl ⟨wanted_at rfl rfl (hd 45 67 rfl rfl), fun K hK => ?_⟩
    have HK := Lib.hid hK
    clear hd hFm hK
    go_simp
    exact HK.out _ _ rfl (Below.refl _ _)
  simp only [List.nil_append, List.cons_append]
  apply step_fix
  · intro a W Zs hS hFm hz hd
    have h68 := ev_get hFm.size (hd 46 68 rfl rfl)
    refine .inl ⟨wanted_at rfl rfl (hd 45 67 rfl rfl), fun K hK => ?_⟩
    have HK := Lib.hid hK
    clear hd hFm hK
    go_simp
    exact HK.out _ _ rfl (Below.refl _ _)
  simp only [List.nil_append, List.cons_append]
  apply step_fix
  · intro a W Zs hS hFm hz hd
    have h8 := hFm.old 8 rfl
    conv at h8 => rhs; whnf
    replace h8 := ev_get hFm.size h8
    refine .inl ⟨wanted_at rfl rfl (hd 45 67 rfl rfl), fun K hK => ?_⟩
    have HK := Lib.hid hK
    clear hd hFm hK
    go_simp
    exact HK.out _ _ rfl (Below.refl _ _)
  simp only [List.nil_append, List.cons_append]
  apply step_fix
  · intro a W Zs hS hFm hz hd
    have h70 := ev_get hFm.size (hd 48 70 rfl rfl)
    have hq := (hG.drew1.later hS).at
    unfold frBox at hq
    refine .inl ⟨wanted_at rfl rfl (hd 45 67 rfl rfl), fun K hK => ?_⟩
    have HK := Lib.hid hK
    clear hd hFm hK
    go_simp
    exact HK.out _ _ rfl (Below.refl _ _)
  simp only [List.nil_append, List.cons_append]
  apply step_fix
  · intro a W Zs hS hFm hz hd
    have h71 := ev_get hFm.size (hd 49 71 rfl rfl)
    refine .inl ⟨wanted_at rfl rfl (hd 45 67 rfl rfl), fun K hK => ?_⟩
    have HK := Lib.hid hK
    clear hd hFm hK
    go_simp
    exact HK.out _ _ rfl (Below.refl _ _)
  simp only [List.nil_append, List.cons_append]
  apply step_fix
  · intro a W Zs hS hFm hz hd
    have h72 := ev_get hFm.size (hd 50 72 rfl rfl)
    refine .inl ⟨wanted_at rfl rfl (hd 45 67 rfl rfl), fun K hK => ?_⟩
    have HK := Lib.hid hK
    clear hd hFm hK
    go_simp
    exact HK.out _ _ rfl (Below.refl _ _)
  simp only [List.nil_append, List.cons_append]
  apply step_fix
  · intro a W Zs hS hFm hz hd
    have h73 := ev_get hFm.size (hd 51 73 rfl rfl)
    refine .inl ⟨wanted_at rfl rfl (hd 45 67 rfl rfl), fun K hK => ?_⟩
    have HK := Lib.hid hK
    clear hd hFm hK
    go_simp
    exact HK.out _ _ rfl (Below.refl _ _)
  simp only [List.nil_append, List.cons_append]
  apply step_fix
  · intro a W Zs hS hFm hz hd
    have h69 := ev_get hFm.size (hd 47 69 rfl rfl)
    have h74 := ev_get hFm.size (hd 52 74 rfl rfl)
    refine .inl ⟨wanted_at rfl rfl (hd 45 67 rfl rfl), fun K hK => ?_⟩
    have HK := Lib.hid hK
    clear hd hFm hK
    go_simp
    exact HK.out _ _ rfl (Below.refl _ _)
  simp only [List.nil_append, List.cons_append]
  apply step_fix
  · intro a W Zs hS hFm hz hd
    have h67 := ev_get hFm.size (hd 45 67 rfl rfl)
    have h75 := ev_get hFm.size (hd 53 75 rfl rfl)
    refine .inl ⟨wanted_none rfl _, fun K hK => ?_⟩
    have HK := Lib.hid hK
    clear hd hFm hK
    go_simp
    exact HK.out _ _ rfl (Below.refl _ _)
  simp only [List.nil_append, List.cons_append]
  intro a w3 Zs hS hFm hz hd
  have e76 := hd 54 76 rfl
  have e0 := hFm.old 0 rfl
  conv at e0 => rhs; whnf
  have e1 := hFm.old 1 rfl
  conv at e1 => rhs; whnf
  have e2 := hFm.old 2 rfl
  conv at e2 => rhs; whnf
  have e3 := hFm.old 3 rfl
  conv at e3 => rhs; whnf
  have e4 := hFm.old 4 rfl
  conv at e4 => rhs; whnf
  have e5 := hFm.old 5 rfl
  conv at e5 => rhs; whnf
  have e6 := hFm.old 6 rfl
  conv at e6 => rhs; whnf
  have e7 := hFm.old 7 rfl
  conv at e7 => rhs; whnf
  have e8 := hFm.old 8 rfl
  conv at e8 => rhs; whnf
  have e9 := hFm.old 9 rfl
  conv at e9 => rhs; whnf
  have e10 := hFm.old 10 rfl
  conv at e10 => rhs; whnf
  have e11 := hFm.old 11 rfl
  conv at e11 => rhs; whnf
  have e12 := hFm.old 12 rfl
  conv at e12 => rhs; whnf
  have e13 := hFm.old 13 rfl
  conv at e13 => rhs; whnf
  have e14 := hFm.old 14 rfl
  conv at e14 => rhs; whnf
  have e15 := hFm.old 15 rfl
  conv at e15 => rhs; whnf
  have e16 := hFm.old 16 rfl
  conv at e16 => rhs; whnf
  have e17 := hFm.old 17 rfl
  conv at e17 => rhs; whnf
  have e18 := hFm.old 18 rfl
  conv at e18 => rhs; whnf
  have e19 := hFm.old 19 rfl
  conv at e19 => rhs; whnf
  have e20 := hFm.old 20 rfl
  conv at e20 => rhs; whnf
  have e21 := hFm.old 21 rfl
  conv at e21 => rhs; whnf
  have e77 := hFm.old 77 rfl
  conv at e77 => rhs; whnf
  have e78 := hFm.old 78 rfl
  conv at e78 => rhs; whnf
  have e79 := hFm.old 79 rfl
  conv at e79 => rhs; whnf
  have e80 := hFm.old 80 rfl
  conv at e80 => rhs; whnf
  have e81 := hFm.old 81 rfl
  conv at e81 => rhs; whnf
  have e82 := hFm.old 82 rfl
  conv at e82 => rhs; whnf
  have e83 := hFm.old 83 rfl
  conv at e83 => rhs; whnf
  have e84 := hFm.old 84 rfl
  conv at e84 => rhs; whnf
  have e85 := hFm.old 85 rfl
  conv at e85 => rhs; whnf
  have e86 := hFm.old 86 rfl
  conv at e86 => rhs; whnf
  have e87 := hFm.old 87 rfl
  conv at e87 => rhs; whnf
  have e88 := hFm.old 88 rfl
  conv at e88 => rhs; whnf
  have e89 := hFm.old 89 rfl
  conv at e89 => rhs; whnf
  have e90 := hFm.old 90 rfl
  conv at e90 => rhs; whnf
  have e91 := hFm.old 91 rfl
  conv at e91 => rhs; whnf
  have e92 := hFm.old 92 rfl
  conv at e92 => rhs; whnf
  have e93 := hFm.old 93 rfl
  conv at e93 => rhs; whnf
  have e94 := hFm.old 94 rfl
  conv at e94 => rhs; whnf
  have e95 := hFm.old 95 rfl
  conv at e95 => rhs; whnf
  have e96 := hFm.old 96 rfl
  conv at e96 => rhs; whnf
  have e97 := hFm.old 97 rfl
  conv at e97 => rhs; whnf
  have e98 := hFm.old 98 rfl
  conv at e98 => rhs; whnf
  have e99 := hFm.old 99 rfl
  conv at e99 => rhs; whnf
  have e100 := hFm.old 100 rfl
  conv at e100 => rhs; whnf
  have e101 := hFm.old 101 rfl
  conv at e101 => rhs; whnf
  have e102 := hFm.old 102 rfl
  conv at e102 => rhs; whnf
  have e103 := hFm.old 103 rfl
  conv at e103 => rhs; whnf
  have e104 := hFm.old 104 rfl
  conv at e104 => rhs; whnf
  have e105 := hFm.old 105 rfl
  conv at e105 => rhs; whnf
  have e106 := hFm.old 106 rfl
  conv at e106 => rhs; whnf
  have e107 := hFm.old 107 rfl
  conv at e107 => rhs; whnf
  have e108 := hFm.old 108 rfl
  conv at e108 => rhs; whnf
  have e109 := hFm.old 109 rfl
  conv at e109 => rhs; whnf
  have e110 := hFm.old 110 rfl
  conv at e110 => rhs; whnf
  have e111 := hFm.old 111 rfl
  conv at e111 => rhs; whnf
  have e112 := hFm.old 112 rfl
  conv at e112 => rhs; whnf
  have e113 := hFm.old 113 rfl
  conv at e113 => rhs; whnf
  have e114 := hFm.old 114 rfl
  conv at e114 => rhs; whnf
  have e115 := hFm.old 115 rfl
  conv at e115 => rhs; whnf
  have e116 := hFm.old 116 rfl
  conv at e116 => rhs; whnf
  have e117 := hFm.old 117 rfl
  conv at e117 => rhs; whnf
  have hsz := hFm.size
  have hdf := hFm.defers
  clear hd hFm
  obtain ⟨t, df⟩ := a
  simp only at hsz hdf
  subst hdf
  obtain ⟨x, hx⟩ : ∃ x : Nat → Value, ∀ i, t.getD i undef = x i := ⟨fun i => t.getD i undef, fun _ => rfl⟩
  have h76 := (hx 76).symm.trans e76
  have h0 := (hx 0).symm.trans e0
  have h1 := (hx 1).symm.trans e1
  have h2 := (hx 2).symm.trans e2
  have h3 := (hx 3).symm.trans e3
  have h4 := (hx 4).symm.trans e4
  have h5 := (hx 5).symm.trans e5
  have h6 := (hx 6).symm.trans e6
  have h7 := (hx 7).symm.trans e7
  have h8 := (hx 8).symm.trans e8
  have h9 := (hx 9).symm.trans e9
  have h10 := (hx 10).symm.trans e10
  have h11 := (hx 11).symm.trans e11
  have h12 := (hx 12).symm.trans e12
  have h13 := (hx 13).symm.trans e13
  have h14 := (hx 14).symm.trans e14
  have h15 := (hx 15).symm.trans e15
  have h16 := (hx 16).symm.trans e16
  have h17 := (hx 17).symm.trans e17
  have h18 := (hx 18).symm.trans e18
  have h19 := (hx 19).symm.trans e19
  have h20 := (hx 20).symm.trans e20
  have h21 := (hx 21).symm.trans e21
  have h77 := (hx 77).symm.trans e77
  have h78 := (hx 78).symm.trans e78
  have h79 := (hx 79).symm.trans e79
  have h80 := (hx 80).symm.trans e80
  have h81 := (hx 81).symm.trans e81
  have h82 := (hx 82).symm.trans e82
  have h83 := (hx 83).symm.trans e83
  have h84 := (hx 84).symm.trans e84
  have h85 := (hx 85).symm.trans e85
  have h86 := (hx 86).symm.trans e86
  have h87 := (hx 87).symm.trans e87
  have h88 := (hx 88).symm.trans e88
  have h89 := (hx 89).symm.trans e89
  have h90 := (hx 90).symm.trans e90
  have h91 := (hx 91).symm.trans e91
  have h92 := (hx 92).symm.trans e92
  have h93 := (hx 93).symm.trans e93
  have h94 := (hx 94).symm.trans e94
  have h95 := (hx 95).symm.trans e95
  have h96 := (hx 96).symm.trans e96
  have h97 := (hx 97).symm.trans e97
  have h98 := (hx 98).symm.trans e98
  have h99 := (hx 99).symm.trans e99
  have h100 := (hx 100).symm.trans e100
  have h101 := (hx 101).symm.trans e101
  have h102 := (hx 102).symm.trans e102
  have h103 := (hx 103).symm.trans e103
  have h104 := (hx 104).symm.trans e104
  have h105 := (hx 105).symm.trans e105
  have h106 := (hx 106).symm.trans e106
  have h107 := (hx 107).symm.trans e107
  have h108 := (hx 108).symm.trans e108
  have h109 := (hx 109).symm.trans e109
  have h110 := (hx 110).symm.trans e110
  have h111 := (hx 111).symm.trans e111
  have h112 := (hx 112).symm.trans e112
  have h113 := (hx 113).symm.trans e113
  have h114 := (hx 114).symm.trans e114
  have h115 := (hx 115).symm.trans e115
  have h116 := (hx 116).symm.trans e116
  have h117 := (hx 117).symm.trans e117
  have ht' : t = #[x 0, x 1, x 2, x 3, x 4, x 5, x 6, x 7, x 8, x 9, x 10, x 11, x 12, x 13, x 14, x 15, x 16, x 17, x 18, x 19, x 20, x 21, x 22, x 23, x 24, x 25, x 26, x 27, x 28, x 29, x 30, x 31, x 32, x 33, x 34, x 35, x 36, x 37, x 38, x 39, x 40, x 41, x 42, x 43, x 44, x 45, x 46, x 47, x 48, x 49, x 50, x 51, x 52, x 53, x 54, x 55, x 56, x 57, x 58, x 59, x 60, x 61, x 62, x 63, x 64, x 65, x 66, x 67, x 68, x 69, x 70, x 71, x 72, x 73, x 74, x 75, x 76, x 77, x 78, x 79, x 80, x 81, x 82, x 83, x 84, x 85, x 86, x 87, x 88, x 89, x 90, x 91, x 92, x 93, x 94, x 95, x 96, x 97, x 98, x 99, x 100, x 101, x 102, x 103, x 104, x 105, x 106, x 107, x 108, x 109, x 110, x 111, x 112, x 113, x 114, x 115, x 116, x 117] := frame_lit t 118 hsz x hx
  clear hx hsz hz e76 e0 e1 e2 e3 e4 e5 e6 e7 e8 e9 e10 e11 e12 e13 e14 e15 e16 e17 e18 e19 e20 e21 e77 e78 e79 e80 e81 e82 e83 e84 e85 e86 e87 e88 e89 e90 e91 e92 e93 e94 e95 e96 e97 e98 e99 e100 e101 e102 e103 e104 e105 e106 e107 e108 e109 e110 e111 e112 e113 e114 e115 e116 e117
  subst ht'
  dsimp only
  rw [h76, h0, h1, h2, h3, h4, h5, h6, h7, h8, h9, h10, h11, h12, h13, h14, h15, h16, h17, h18, h19, h20, h21, h77, h78, h79, h80, h81, h82, h83, h84, h85, h86, h87, h88, h89, h90, h91, h92, h93, h94, h95, h96, h97, h98, h99, h100, h101, h102, h103, h104, h105, h106, h107, h108, h109, h110, h111, h112, h113, h114, h115, h116, h117]
  clear h76 h0 h1 h2 h3 h4 h5 h6 h7 h8 h9 h10 h11 h12 h13 h14 h15 h16 h17 h18 h19 h20 h21 h77 h78 h79 h80 h81 h82 h83 h84 h85 h86 h87 h88 h89 h90 h91 h92 h93 h94 h95 h96 h97 h98 h99 h100 h101 h102 h103 h104 h105 h106 h107 h108 h109 h110 h111 h112 h113 h114 h115 h116 h117
  have hb2 := from_drew hS
  replace hB := hB.trans (hb2.mono hB.size)
  replace hG := hG.later hb2
  replace hrg := hrg.later hb2
  clear hS hb2 p1 p2 p3 p4 p5 c1 c2 c3
  go_wp2
  go_loopw [10] (fun i w' => PlacesTo g ga gc gb w i w') (fun i _ => g.E.length - (intOf i).toNat)
  case atStart => exact ⟨0, Nat.zero_le _, rfl, hB, hG, hrg⟩
  case round =>
    clear hB hG hrg
    obtain ⟨j, hj, rfl, hB, hG, hrg⟩ := hrel
    have qG := hG.at
    unfold frBox at qG
    by_cases hlt : j < g.E.length
    · have d1 : decide (j < g.E.length) = true := by simpa using hlt
      obtain ⟨P1, P2⟩ := HI.out j hlt
      rw [← HB.out _ 2 (by omega) (by omega)] at P1
      rw [← HB.out _ 8 (by omega) (by omega)] at P2
      obtain ⟨b1, o1, rfl, hb1, hc1, hc2, _, _⟩ := hrg.get j hlt
      have HC1 := Lib.hid (fun W (h : Below wr.drew.heap.size wr.drew W) => (h.cell (p := ⟨b1, o1 + j * 2, none⟩) hb1).trans hc1)
      have HC2 := Lib.hid (fun W (h : Below wr.drew.heap.size wr.drew W) => (h.cell (p := ⟨b1, o1 + j * 2 + 1, none⟩) hb1).trans hc2)
      generalize g.E[j] = it at *
      have hlen := HL.out
      obtain ⟨p, hp⟩ : ∃ p : Nat, p = 34 + 10 * j := ⟨_, rfl⟩
      obtain ⟨q, hq⟩ : ∃ q : Nat, q = 36 + 10 * j := ⟨_, rfl⟩
      obtain ⟨r, hr⟩ : ∃ r : Nat, r = 44 + 10 * j := ⟨_, rfl⟩
      have y0 : IntKind.i64.wrap (10 * (j : Int)) = 10 * (j : Int) := wrap_in _ (by omega) (by omega)
      have y1 : IntKind.i64.wrap (34 + 10 * (j : Int)) = (p : Int) := by rw [wrap_in _ (by omega) (by omega)]; omega
      have y2 : IntKind.i64.wrap (36 + 10 * (j : Int)) = (q : Int) := by rw [wrap_in _ (by omega) (by omega)]; omega
      have y3 : IntKind.i64.wrap (44 + 10 * (j : Int)) = (r : Int) := by rw [wrap_in _ (by omega) (by omega)]; omega
      rw [← hp] at P1
      rw [← hq] at P2
      have P1' : ((l.drop p).take 2 == bitsI it.K 2) = true := by rw [P1]; simp
      have P2' : ((l.drop q).take 8 == bitsI it.V 8) = true := by rw [P2]; simp
      have e1 : q - p = 2 := by omega
      have e2 : r - q = 8 := by omega
      have i1 : p ≤ q := by omega
      have i2 : q ≤ r := by omega
      have i3 : q ≤ l.length := by omega
      have i4 : r ≤ l.length := by omega
      have i5 : (p : Int) ≤ (q : Int) := by omega
      have i6 : (q : Int) ≤ (r : Int) := by omega
      have i7 : (q : Int) ≤ (l.length : Int) := by omega
      have i8 : (r : Int) ≤ (l.length : Int) := by omega
      have j0 : (0 : Int) ≤ (j : Int) := by omega
      have j1 : (j : Int) < (g.E.length : Int) := by omega
      clear hp hq hr P1 P2 hlen
      go_upto_region 11 with fail
      refine region_slots [some 84, some 85, some 86, some 87, some 88, some 89, some 90, some 91, some 92, some 93, some 94, some 95, some 96, some 97, some 98, some 99, some 100, some 101, some 102, some 103, some 104, some 105, some 106, some 107, some 108, some 109, some 110, some 111, some 112, some 113, some 114, some 115, some 116, some 117] [none, none, none, none, none, none, none, none, none, none, none, none, none, none, none, none, none, none, none, none, none, none, none, none, none, none, none, none, none, none, none, none, none, none] 118 (by kernel_rfl) (by kernel_rfl) rfl rfl ?_
      apply step_fix
      · intro a W Zs hS hFm hz hd
        have h9 := hFm.old 9 rfl
        conv at h9 => rhs; whnf
        replace h9 := ev_get hFm.size h9
        refine .inl ⟨wanted_none rfl _, fun K hK => ?_⟩
        have HK := Lib.hid hK
        clear hd hFm hK
        go_simp
        exact HK.out _ _ rfl (Below.refl _ _)
      simp only [List.nil_append, List.cons_append]
      apply step_fix
      · intro a W Zs hS hFm hz hd
        have h10 := hFm.old 10 rfl
        conv at h10 => rhs; whnf
        replace h10 := ev_get hFm.size h10
        refine .inl ⟨wanted_none rfl _, fun K hK => ?_⟩
        have HK := Lib.hid hK
        clear hd hFm hK
        go_simp
        exact HK.out _ _ rfl (Below.refl _ _)
      simp only [List.nil_append, List.cons_append]
      apply step_fix
      · intro a W Zs hS hFm hz hd
        have h85 := ev_get hFm.size (hd 1 85 rfl rfl)
        refine .inl ⟨wanted_none rfl _, fun K hK => ?_⟩
        have HK := Lib.hid hK
        clear hd hFm hK
        go_simp
        exact HK.out _ _ rfl (Below.refl _ _)
      simp only [List.nil_append, List.cons_append]
      apply step_fix
      · intro a W Zs hS hFm hz hd
        have h86 := ev_get hFm.size (hd 2 86 rfl rfl)
        refine .inl ⟨wanted_none rfl _, fun K hK => ?_⟩
        have HK := Lib.hid hK
        clear hd hFm hK
        go_simp
        exact HK.out _ _ rfl (Below.refl _ _)
      simp only [List.nil_append, List.cons_append]
      apply step_fix
      · intro a W Zs hS hFm hz hd
        have h10 := hFm.old 10 rfl
        conv at h10 => rhs; whnf
        replace h10 := ev_get hFm.size h10
        refine .inl ⟨wanted_none rfl _, fun K hK => ?_⟩
        have HK := Lib.hid hK
        clear hd hFm hK
        go_simp
        exact HK.out _ _ rfl (Below.refl _ _)
      simp only [List.nil_append, List.cons_append]
      apply step_fix
      · intro a W Zs hS hFm hz hd
        have h88 := ev_get hFm.size (hd 4 88 rfl rfl)
        refine .inl ⟨wanted_none rfl _, fun K hK => ?_⟩
        have HK := Lib.hid hK
        clear hd hFm hK
        go_simp
        exact HK.out _ _ rfl (Below.refl _ _)
      simp only [List.nil_append, List.cons_append]
      apply step_fix
      · intro a W Zs hS hFm hz hd
        have h89 := ev_get hFm.size (hd 5 89 rfl rfl)
        refine .inl ⟨wanted_none rfl _, fun K hK => ?_⟩
        have HK := Lib.hid hK
        clear hd hFm hK
        go_simp
        exact HK.out _ _ rfl (Below.refl _ _)
      simp only [List.nil_append, List.cons_append]
      apply step_fix
      · intro a W Zs hS hFm hz hd
        have h84 := ev_get hFm.size (hd 0 84 rfl rfl)
        have h87 := ev_get hFm.size (hd 3 87 rfl rfl)
        have h90 := ev_get hFm.size (hd 6 90 rfl rfl)
        refine .inl ⟨wanted_none rfl _, fun K hK => ?_⟩
        have HK := Lib.hid hK
        clear hd hFm hK
        go_simp
        exact HK.out _ _ rfl (Below.refl _ _)
      simp only [List.nil_append, List.cons_append]
      apply step_fix
      · intro a W Zs hS hFm hz hd
        have h8 := hFm.old 8 rfl
        conv at h8 => rhs; whnf
        replace h8 := ev_get hFm.size h8
        refine .inl ⟨wanted_none rfl _, fun K hK => ?_⟩
        have HK := Lib.hid hK
        clear hd hFm hK
        go_simp
        exact HK.out _ _ rfl (Below.refl _ _)
      simp only [List.nil_append, List.cons_append]
      apply step_fix
      · intro a W Zs hS hFm hz hd
        have h92 := ev_get hFm.size (hd 8 92 rfl rfl)
        have hq := (hG.drew1.later hS).at
        unfold frBox at hq
        refine .inl ⟨wanted_none rfl _, fun K hK => ?_⟩
        have HK := Lib.hid hK
        clear hd hFm hK
        go_simp
        exact HK.out _ _ rfl (Below.refl _ _)
      simp only [List.nil_append, List.cons_append]
      apply step_fix
      · intro a W Zs hS hFm hz hd
        have h10 := hFm.old 10 rfl
        conv at h10 => rhs; whnf
        replace h10 := ev_get hFm.size h10
        refine .inl ⟨wanted_none rfl _, fun K hK => ?_⟩
        have HK := Lib.hid hK
        clear hd hFm hK
        go_simp
        exact HK.out _ _ rfl (Below.refl _ _)
      simp only [List.nil_append, List.cons_append]
      apply step_fix
      · intro a W Zs hS hFm hz hd
        have h93 := ev_get hFm.size (hd 9 93 rfl rfl)
        have h94 := ev_get hFm.size (hd 10 94 rfl rfl)
        refine .inl ⟨wanted_none rfl _, fun K hK => ?_⟩
        have HK := Lib.hid hK
        clear hd hFm hK
        go_simp
        exact HK.out _ _ rfl (Below.refl _ _)
      simp only [List.nil_append, List.cons_append]
      apply step_fix
      · intro a W Zs hS hFm hz hd
        have h95 := ev_get hFm.size (hd 11 95 rfl rfl)
        refine .inl ⟨wanted_none rfl _, fun K hK => ?_⟩
        have HK := Lib.hid hK
        clear hd hFm hK
        go_simp
        exact HK.out _ _ rfl (Below.refl _ _)
      simp only [List.nil_append, List.cons_append]
      apply step_fix
      · intro a W Zs hS hFm hz hd
        have h96 := ev_get hFm.size (hd 12 96 rfl rfl)
        have hq2 := HC1.out W hS
        refine .inl ⟨wanted_none rfl _, fun K hK => ?_⟩
        have HK := Lib.hid hK
        clear hd hFm hK
        go_simp
        exact HK.out _ _ rfl (Below.refl _ _)
      simp only [List.nil_append, List.cons_append]
      apply step_fix
      · intro a W Zs hS hFm hz hd
        have h97 := ev_get hFm.size (hd 13 97 rfl rfl)
        refine .inl ⟨wanted_none rfl _, fun K hK => ?_⟩
        have HK := Lib.hid hK
        clear hd hFm hK
        go_simp
        refine (HB2.out _ _ _).mono ?_
        rintro e W' ⟨rfl, rfl⟩
        exact HK.out _ _ rfl (Below.refl _ _)
      simp only [List.nil_append, List.cons_append]
      apply step_fix
      · intro a W Zs hS hFm hz hd
        have h91 := ev_get hFm.size (hd 7 91 rfl rfl)
        have h98 := ev_get hFm.size (hd 14 98 rfl rfl)
        refine .inl ⟨wanted_none rfl _, fun K hK => ?_⟩
        have HK := Lib.hid hK
        clear hd hFm hK
        go_simp
        exact HK.out _ _ rfl (Below.refl _ _)
      simp only [List.nil_append, List.cons_append]
      apply step_fix
      · intro a W Zs hS hFm hz hd
        have h99 := ev_get hFm.size (hd 15 99 rfl rfl)
        refine .inl ⟨wanted_none rfl _, fun K hK => ?_⟩
        have HK := Lib.hid hK
        clear hd hFm hK
        go_simp
        exact HK.out _ _ rfl (Below.refl _ _)
      simp only [List.nil_append, List.cons_append]
      apply step_fix
      · intro a W Zs hS hFm hz hd
        have h9 := hFm.old 9 rfl
        conv at h9 => rhs; whnf
        replace h9 := ev_get hFm.size h9
        refine .inl ⟨wanted_at rfl rfl (hd 16 100 rfl rfl), fun K hK => ?_⟩
        have HK := Lib.hid hK
        clear hd hFm hK
        go_simp
        exact HK.out _ _ rfl (Below.refl _ _)
      simp only [List.nil_append, List.cons_append]
      apply step_fix
      · intro a W Zs hS hFm hz hd
        have h10 := hFm.old 10 rfl
        conv at h10 => rhs; whnf
        replace h10 := ev_get hFm.size h10
        refine .inl ⟨wanted_at rfl rfl (hd 16 100 rfl rfl), fun K hK => ?_⟩
        have HK := Lib.hid hK
        clear hd hFm hK
        go_simp
        exact HK.out _ _ rfl (Below.refl _ _)
      simp only [List.nil_append, List.cons_append]
      apply step_fix
      · intro a W Zs hS hFm hz hd
        have h102 := ev_get hFm.size (hd 18 102 rfl rfl)
        refine .inl ⟨wanted_at rfl rfl (hd 16 100 rfl rfl), fun K hK => ?_⟩
        have HK := Lib.hid hK
        clear hd hFm hK
        go_simp
        exact HK.out _ _ rfl (Below.refl _ _)
      simp only [List.nil_append, List.cons_append]
      apply step_fix
      · intro a W Zs hS hFm hz hd
        have h103 := ev_get hFm.size (hd 19 103 rfl rfl)
        refine .inl ⟨wanted_at rfl rfl (hd 16 100 rfl rfl), fun K hK => ?_⟩
        have HK := Lib.hid hK
        clear hd hFm hK
        go_simp
        exact HK.out _ _ rfl (Below.refl _ _)
      simp only [List.nil_append, List.cons_append]
      apply step_fix
      · intro a W Zs hS hFm hz hd
        have h10 := hFm.old 10 rfl
        conv at h10 => rhs; whnf
        replace h10 := ev_get hFm.size h10
        refine .inl ⟨wanted_at rfl rfl (hd 16 100 rfl rfl), fun K hK => ?_⟩
        have HK := Lib.hid hK
        clear hd hFm hK
        go_simp
        exact HK.out _ _ rfl (Below.refl _ _)
      simp only [List.nil_append, List.cons_append]
      apply step_fix
      · intro a W Zs hS hFm hz hd
        have h105 := ev_get hFm.size (hd 21 105 rfl rfl)
        refine .inl ⟨wanted_at rfl rfl (hd 16 100 rfl rfl), fun K hK => ?_⟩
        have HK := Lib.hid hK
        clear hd hFm hK
        go_simp
        exact HK.out _ _ rfl (Below.refl _ _)
      simp only [List.nil_append, List.cons_append]
      apply step_fix
      · intro a W Zs hS hFm hz hd
        have h106 := ev_get hFm.size (hd 22 106 rfl rfl)
        refine .inl ⟨wanted_at rfl rfl (hd 16 100 rfl rfl), fun K hK => ?_⟩
        have HK := Lib.hid hK
        clear hd hFm hK
        go_simp
        exact HK.out _ _ rfl (Below.refl _ _)
      simp only [List.nil_append, List.cons_append]
      apply step_fix
      · intro a W Zs hS hFm hz hd
        have h101 := ev_get hFm.size (hd 17 101 rfl rfl)
        have h104 := ev_get hFm.size (hd 20 104 rfl rfl)
        have h107 := ev_get hFm.size (hd 23 107 rfl rfl)
        refine .inl ⟨wanted_at rfl rfl (hd 16 100 rfl rfl), fun K hK => ?_⟩
        have HK := Lib.hid hK
        clear hd hFm hK
        go_simp
        exact HK.out _ _ rfl (Below.refl _ _)
      simp only [List.nil_append, List.cons_append]
      apply step_fix
      · intro a W Zs hS hFm hz hd
        have h8 := hFm.old 8 rfl
        conv at h8 => rhs; whnf
        replace h8 := ev_get hFm.size h8
        refine .inl ⟨wanted_at rfl rfl (hd 16 100 rfl rfl), fun K hK => ?_⟩
        have HK := Lib.hid hK
        clear hd hFm hK
        go_simp
        exact HK.out _ _ rfl (Below.refl _ _)
      simp only [List.nil_append, List.cons_append]
      apply step_fix
      · intro a W Zs hS hFm hz hd
        have h109 := ev_get hFm.size (hd 25 109 rfl rfl)
        have hq := (hG.drew1.later hS).at
        unfold frBox at hq
        refine .inl ⟨wanted_at rfl rfl (hd 16 100 rfl rfl), fun K hK => ?_⟩
        have HK := Lib.hid hK
        clear hd hFm hK
        go_simp
        exact HK.out _ _ rfl (Below.refl _ _)
      simp only [List.nil_append, List.cons_append]
      apply step_fix
      · intro a W Zs hS hFm hz hd
        have h10 := hFm.old 10 rfl
        conv at h10 => rhs; whnf
        replace h10 := ev_get hFm.size h10
        refine .inl ⟨wanted_at rfl rfl (hd 16 100 rfl rfl), fun K hK => ?_⟩
        have HK := Lib.hid hK
        clear hd hFm hK
        go_simp
        exact HK.out _ _ rfl (Below.refl _ _)
      simp only [List.nil_append, List.cons_append]
      apply step_fix
      · intro a W Zs hS hFm hz hd
        have h110 := ev_get hFm.size (hd 26 110 rfl rfl)
        have h111 := ev_get hFm.size (hd 27 111 rfl rfl)
        refine .inl ⟨wanted_at rfl rfl (hd 16 100 rfl rfl), fun K hK => ?_⟩
        have HK := Lib.hid hK
        clear hd hFm hK
        go_simp
        exact HK.out _ _ rfl (Below.refl _ _)
      simp only [List.nil_append, List.cons_append]
      apply step_fix
      · intro a W Zs hS hFm hz hd
        have h112 := ev_get hFm.size (hd 28 112 rfl rfl)
        refine .inl ⟨wanted_at rfl rfl (hd 16 100 rfl rfl), fun K hK => ?_⟩
        have HK := Lib.hid hK
        clear hd hFm hK
        go_simp
        exact HK.out _ _ rfl (Below.refl _ _)
      simp only [List.nil_append, List.cons_append]
      apply step_fix
      · intro a W Zs hS hFm hz hd
        have h113 := ev_get hFm.size (hd 29 113 rfl rfl)
        have hq2 := HC2.out W hS
        refine .inl ⟨wanted_at rfl rfl (hd 16 100 rfl rfl), fun K hK => ?_⟩
        have HK := Lib.hid hK
        clear hd hFm hK
        go_simp
        exact HK.out _ _ rfl (Below.refl _ _)
      simp only [List.nil_append, List.cons_append]
      apply step_fix
      · intro a W Zs hS hFm hz hd
        have h114 := ev_get hFm.size (hd 30 114 rfl rfl)
        refine .inl ⟨wanted_at rfl rfl (hd 16 100 rfl rfl), fun K hK => ?_⟩
        have HK := Lib.hid hK
        clear hd hFm hK
        go_simp
        refine (HB2.out _ _ _).mono ?_
        rintro e W' ⟨rfl, rfl⟩
        exact HK.out _ _ rfl (Below.refl _ _)
      simp only [List.nil_append, List.cons_append]
      apply step_fix
      · intro a W Zs hS hFm hz hd
        have h108 := ev_get hFm.size (hd 24 108 rfl rfl)
        have h115 := ev_get hFm.size (hd 31 115 rfl rfl)
        refine .inl ⟨wanted_at rfl rfl (hd 16 100 rfl rfl), fun K hK => ?_⟩
        have HK := Lib.hid hK
        clear hd hFm hK
        go_simp
        exact HK.out _ _ rfl (Below.refl _ _)
      simp only [List.nil_append, List.cons_append]
      apply step_fix
      · intro a W Zs hS hFm hz hd
        have h100 := ev_get hFm.size (hd 16 100 rfl rfl)
        have h116 := ev_get hFm.size (hd 32 116 rfl rfl)
        refine .inl ⟨wanted_none rfl _, fun K hK => ?_⟩
        have HK := Lib.hid hK
        clear hd hFm hK
        go_simp
        exact HK.out _ _ rfl (Below.refl _ _)
      simp only [List.nil_append, List.cons_append]
      intro a w4 Zs hS hFm hz hd
      have e117 := hd 33 117 rfl
      have e0 := hFm.old 0 rfl
      conv at e0 => rhs; whnf
      have e1 := hFm.old 1 rfl
      conv at e1 => rhs; whnf
      have e2 := hFm.old 2 rfl
      conv at e2 => rhs; whnf
      have e3 := hFm.old 3 rfl
      conv at e3 => rhs; whnf
      have e4 := hFm.old 4 rfl
      conv at e4 => rhs; whnf
      have e5 := hFm.old 5 rfl
      conv at e5 => rhs; whnf
      have e6 := hFm.old 6 rfl
      conv at e6 => rhs; whnf
      have e7 := hFm.old 7 rfl
      conv at e7 => rhs; whnf
      have e8 := hFm.old 8 rfl
      conv at e8 => rhs; whnf
      have e9 := hFm.old 9 rfl
      conv at e9 => rhs; whnf
      have e10 := hFm.old 10 rfl
      conv at e10 => rhs; whnf
      have e11 := hFm.old 11 rfl
      conv at e11 => rhs; whnf
      have e12 := hFm.old 12 rfl
      conv at e12 => rhs; whnf
      have e13 := hFm.old 13 rfl
      conv at e13 => rhs; whnf
      have e14 := hFm.old 14 rfl
      conv at e14 => rhs; whnf
      have e15 := hFm.old 15 rfl
      conv at e15 => rhs; whnf
      have e16 := hFm.old 16 rfl
      conv at e16 => rhs; whnf
      have e17 := hFm.old 17 rfl
      conv at e17 => rhs; whnf
      have e18 := hFm.old 18 rfl
      conv at e18 => rhs; whnf
      have e19 := hFm.old 19 rfl
      conv at e19 => rhs; whnf
      have e20 := hFm.old 20 rfl
      conv at e20 => rhs; whnf
      have e21 := hFm.old 21 rfl
      conv at e21 => rhs; whnf
      have e22 := hFm.old 22 rfl
      conv at e22 => rhs; whnf
      have e23 := hFm.old 23 rfl
      conv at e23 => rhs; whnf
      have e24 := hFm.old 24 rfl
      conv at e24 => rhs; whnf
      have e25 := hFm.old 25 rfl
      conv at e25 => rhs; whnf
      have e26 := hFm.old 26 rfl
      conv at e26 => rhs; whnf
      have e27 := hFm.old 27 rfl
      conv at e27 => rhs; whnf
      have e28 := hFm.old 28 rfl
      conv at e28 => rhs; whnf
      have e29 := hFm.old 29 rfl
      conv at e29 => rhs; whnf
      have e30 := hFm.old 30 rfl
      conv at e30 => rhs; whnf
      have e31 := hFm.old 31 rfl
      conv at e31 => rhs; whnf
      have e32 := hFm.old 32 rfl
      conv at e32 => rhs; whnf
      have e33 := hFm.old 33 rfl
      conv at e33 => rhs; whnf
      have e34 := hFm.old 34 rfl
      conv at e34 => rhs; whnf
      have e35 := hFm.old 35 rfl
      conv at e35 => rhs; whnf
      have e36 := hFm.old 36 rfl
      conv at e36 => rhs; whnf
      have e37 := hFm.old 37 rfl
      conv at e37 => rhs; whnf
      have e38 := hFm.old 38 rfl
      conv at e38 => rhs; whnf
      have e39 := hFm.old 39 rfl
      conv at e39 => rhs; whnf
      have e40 := hFm.old 40 rfl
      conv at e40 => rhs; whnf
      have e41 := hFm.old 41 rfl
      conv at e41 => rhs; whnf
      have e42 := hFm.old 42 rfl
      conv at e42 => rhs; whnf
      have e43 := hFm.old 43 rfl
      conv at e43 => rhs; whnf
      have e44 := hFm.old 44 rfl
      conv at e44 => rhs; whnf
      have e45 := hFm.old 45 rfl
      conv at e45 => rhs; whnf
      have e46 := hFm.old 46 rfl
      conv at e46 => rhs; whnf
      have e47 := hFm.old 47 rfl
      conv at e47 => rhs; whnf
      have e48 := hFm.old 48 rfl
      conv at e48 => rhs; whnf
      have e49 := hFm.old 49 rfl
      conv at e49 => rhs; whnf
      have e50 := hFm.old 50 rfl
      conv at e50 => rhs; whnf
      have e51 := hFm.old 51 rfl
      conv at e51 => rhs; whnf
      have e52 := hFm.old 52 rfl
      conv at e52 => rhs; whnf
      have e53 := hFm.old 53 rfl
      conv at e53 => rhs; whnf
      have e54 := hFm.old 54 rfl
      conv at e54 => rhs; whnf
      have e55 := hFm.old 55 rfl
      conv at e55 => rhs; whnf
      have e56 := hFm.old 56 rfl
      conv at e56 => rhs; whnf
      have e57 := hFm.old 57 rfl
      conv at e57 => rhs; whnf
      have e58 := hFm.old 58 rfl
      conv at e58 => rhs; whnf
      have e59 := hFm.old 59 rfl
      conv at e59 => rhs; whnf
      have e60 := hFm.old 60 rfl
      conv at e60 => rhs; whnf
      have e61 := hFm.old 61 rfl
      conv at e61 => rhs; whnf
      have e62 := hFm.old 62 rfl
      conv at e62 => rhs; whnf
      have e63 := hFm.old 63 rfl
      conv at e63 => rhs; whnf
      have e64 := hFm.old 64 rfl
      conv at e64 => rhs; whnf
      have e65 := hFm.old 65 rfl
      conv at e65 => rhs; whnf
      have e66 := hFm.old 66 rfl
      conv at e66 => rhs; whnf
      have e67 := hFm.old 67 rfl
      conv at e67 => rhs; whnf
      have e68 := hFm.old 68 rfl
      conv at e68 => rhs; whnf
      have e69 := hFm.old 69 rfl
      conv at e69 => rhs; whnf
      have e70 := hFm.old 70 rfl
      conv at e70 => rhs; whnf
      have e71 := hFm.old 71 rfl
      conv at e71 => rhs; whnf
      have e72 := hFm.old 72 rfl
      conv at e72 => rhs; whnf
      have e73 := hFm.old 73 rfl
      conv at e73 => rhs; whnf
      have e74 := hFm.old 74 rfl
      conv at e74 => rhs; whnf
      have e75 := hFm.old 75 rfl
      conv at e75 => rhs; whnf
      have e76 := hFm.old 76 rfl
      conv at e76 => rhs; whnf
      have e77 := hFm.old 77 rfl
      conv at e77 => rhs; whnf
      have e78 := hFm.old 78 rfl
      conv at e78 => rhs; whnf
      have e79 := hFm.old 79 rfl
      conv at e79 => rhs; whnf
      have e80 := hFm.old 80 rfl
      conv at e80 => rhs; whnf
      have e81 := hFm.old 81 rfl
      conv at e81 => rhs; whnf
      have e82 := hFm.old 82 rfl
      conv at e82 => rhs; whnf
      have e83 := hFm.old 83 rfl
      conv at e83 => rhs; whnf
      have hsz := hFm.size
      have hdf := hFm.defers
      clear hd hFm
      obtain ⟨t, df⟩ := a
      simp only at hsz hdf
      subst hdf
      obtain ⟨x, hx⟩ : ∃ x : Nat → Value, ∀ i, t.getD i undef = x i := ⟨fun i => t.getD i undef, fun _ => rfl⟩
      have h117 := (hx 117).symm.trans e117
      have h0 := (hx 0).symm.trans e0
      have h1 := (hx 1).symm.trans e1
      have h2 := (hx 2).symm.trans e2
      have h3 := (hx 3).symm.trans e3
      have h4 := (hx 4).symm.trans e4
      have h5 := (hx 5).symm.trans e5
      have h6 := (hx 6).symm.trans e6
      have h7 := (hx 7).symm.trans e7
      have h8 := (hx 8).symm.trans e8
      have h9 := (hx 9).symm.trans e9
      have h10 := (hx 10).symm.trans e10
      have h11 := (hx 11).symm.trans e11
      have h12 := (hx 12).symm.trans e12
      have h13 := (hx 13).symm.trans e13
      have h14 := (hx 14).symm.trans e14
      have h15 := (hx 15).symm.trans e15
      have h16 := (hx 16).symm.trans e16
      have h17 := (hx 17).symm.trans e17
      have h18 := (hx 18).symm.trans e18
      have h19 := (hx 19).symm.trans e19
      have h20 := (hx 20).symm.trans e20
      have h21 := (hx 21).symm.trans e21
      have h22 := (hx 22).symm.trans e22
      have h23 := (hx 23).symm.trans e23
      have h24 := (hx 24).symm.trans e24
      have h25 := (hx 25).symm.trans e25
      have h26 := (hx 26).symm.trans e26
      have h27 := (hx 27).symm.trans e27
      have h28 := (hx 28).symm.trans e28
      have h29 := (hx 29).symm.trans e29
      have h30 := (hx 30).symm.trans e30
      have h31 := (hx 31).symm.trans e31
      have h32 := (hx 32).symm.trans e32
      have h33 := (hx 33).symm.trans e33
      have h34 := (hx 34).symm.trans e34
      have h35 := (hx 35).symm.trans e35
      have h36 := (hx 36).symm.trans e36
      have h37 := (hx 37).symm.trans e37
      have h38 := (hx 38).symm.trans e38
      have h39 := (hx 39).symm.trans e39
      have h40 := (hx 40).symm.trans e40
      have h41 := (hx 41).symm.trans e41
      have h42 := (hx 42).symm.trans e42
      have h43 := (hx 43).symm.trans e43
      have h44 := (hx 44).symm.trans e44
      have h45 := (hx 45).symm.trans e45
      have h46 := (hx 46).symm.trans e46
      have h47 := (hx 47).symm.trans e47
      have h48 := (hx 48).symm.trans e48
      have h49 := (hx 49).symm.trans e49
      have h50 := (hx 50).symm.trans e50
      have h51 := (hx 51).symm.trans e51
      have h52 := (hx 52).symm.trans e52
      have h53 := (hx 53).symm.trans e53
      have h54 := (hx 54).symm.trans e54
      have h55 := (hx 55).symm.trans e55
      have h56 := (hx 56).symm.trans e56
      have h57 := (hx 57).symm.trans e57
      have h58 := (hx 58).symm.trans e58
      have h59 := (hx 59).symm.trans e59
      have h60 := (hx 60).symm.trans e60
      have h61 := (hx 61).symm.trans e61
      have h62 := (hx 62).symm.trans e62
      have h63 := (hx 63).symm.trans e63
      have h64 := (hx 64).symm.trans e64
      have h65 := (hx 65).symm.trans e65
      have h66 := (hx 66).symm.trans e66
      have h67 := (hx 67).symm.trans e67
      have h68 := (hx 68).symm.trans e68
      have h69 := (hx 69).symm.trans e69
      have h70 := (hx 70).symm.trans e70
      have h71 := (hx 71).symm.trans e71
      have h72 := (hx 72).symm.trans e72
      have h73 := (hx 73).symm.trans e73
      have h74 := (hx 74).symm.trans e74
      have h75 := (hx 75).symm.trans e75
      have h76 := (hx 76).symm.trans e76
      have h77 := (hx 77).symm.trans e77
      have h78 := (hx 78).symm.trans e78
      have h79 := (hx 79).symm.trans e79
      have h80 := (hx 80).symm.trans e80
      have h81 := (hx 81).symm.trans e81
      have h82 := (hx 82).symm.trans e82
      have h83 := (hx 83).symm.trans e83
      have ht' : t = #[x 0, x 1, x 2, x 3, x 4, x 5, x 6, x 7, x 8, x 9, x 10, x 11, x 12, x 13, x 14, x 15, x 16, x 17, x 18, x 19, x 20, x 21, x 22, x 23, x 24, x 25, x 26, x 27, x 28, x 29, x 30, x 31, x 32, x 33, x 34, x 35, x 36, x 37, x 38, x 39, x 40, x 41, x 42, x 43, x 44, x 45, x 46, x 47, x 48, x 49, x 50, x 51, x 52, x 53, x 54, x 55, x 56, x 57, x 58, x 59, x 60, x 61, x 62, x 63, x 64, x 65, x 66, x 67, x 68, x 69, x 70, x 71, x 72, x 73, x 74, x 75, x 76, x 77, x 78, x 79, x 80, x 81, x 82, x 83, x 84, x 85, x 86, x 87, x 88, x 89, x 90, x 91, x 92, x 93, x 94, x 95, x 96, x 97, x 98, x 99, x 100, x 101, x 102, x 103, x 104, x 105, x 106, x 107, x 108, x 109, x 110, x 111, x 112, x 113, x 114, x 115, x 116, x 117] := frame_lit t 118 hsz x hx
      clear hx hsz hz e117 e0 e1 e2 e3 e4 e5 e6 e7 e8 e9 e10 e11 e12 e13 e14 e15 e16 e17 e18 e19 e20 e21 e22 e23 e24 e25 e26 e27 e28 e29 e30 e31 e32 e33 e34 e35 e36 e37 e38 e39 e40 e41 e42 e43 e44 e45 e46 e47 e48 e49 e50 e51 e52 e53 e54 e55 e56 e57 e58 e59 e60 e61 e62 e63 e64 e65 e66 e67 e68 e69 e70 e71 e72 e73 e74 e75 e76 e77 e78 e79 e80 e81 e82 e83
      subst ht'
      dsimp only
      rw [h117, h0, h1, h2, h3, h4, h5, h6, h7, h8, h9, h10, h11, h12, h13, h14, h15, h16, h17, h18, h19, h20, h21, h22, h23, h24, h25, h26, h27, h28, h29, h30, h31, h32, h33, h34, h35, h36, h37, h38, h39, h40, h41, h42, h43, h44, h45, h46, h47, h48, h49, h50, h51, h52, h53, h54, h55, h56, h57, h58, h59, h60, h61, h62, h63, h64, h65, h66, h67, h68, h69, h70, h71, h72, h73, h74, h75, h76, h77, h78, h79, h80, h81, h82, h83]
      clear h117 h0 h1 h2 h3 h4 h5 h6 h7 h8 h9 h10 h11 h12 h13 h14 h15 h16 h17 h18 h19 h20 h21 h22 h23 h24 h25 h26 h27 h28 h29 h30 h31 h32 h33 h34 h35 h36 h37 h38 h39 h40 h41 h42 h43 h44 h45 h46 h47 h48 h49 h50 h51 h52 h53 h54 h55 h56 h57 h58 h59 h60 h61 h62 h63 h64 h65 h66 h67 h68 h69 h70 h71 h72 h73 h74 h75 h76 h77 h78 h79 h80 h81 h82 h83
      have hb2 := from_drew hS
      go_wp2
      go_roundw
      case rel => exact ⟨j + 1, by omega, by go_num, hB.trans (hb2.mono hB.size), hG.later hb2, hrg.later hb2⟩
      case measure => simp [intOf]; omega
    · have d1 : decide (j < g.E.length) = false := by simpa using hlt
      go_wp2
      go_ret
      exact ⟨rfl, hB⟩

end Go.Proofs.Ytafcjdcmbklfkaa

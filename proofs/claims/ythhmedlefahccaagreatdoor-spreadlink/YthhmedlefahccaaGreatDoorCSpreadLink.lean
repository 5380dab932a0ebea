/-
  SpreadLink answers true for every input, and leaves its arguments as they were; the package's table of bounds is tied to the program's text. No condition.
-/
import Derived.Test.YthhmedlefahccaaGreatDoorK17
import Derived.Test.YthhmedlefahccaaGreatDoorK10
import Derived.Test.YthhmedlefahccaaGreatDoorTie
import Derived.Test.YthhmedlefahccaaGreatDoorCards
/-
  SpreadLink's walk.
-/
namespace Go.Proofs.YthhmedlefahccaaGreatDoor
open Go.RowKit Plait
set_option maxRecDepth 100000
set_option linter.unusedVariables false
set_option linter.unusedSimpArgs false

theorem side_cell {W : World} {b : Nat} {t : TypeId} {M : Array Value} {n : Nat} {g : Nat → Sd} (hL : Blk W b t M) (hM : SdM M n g) (k : Nat) (hk : k < n) : W.cell? ⟨b, k * 4 + 2, none⟩ = some (.string ⟨(g k).O.toArray⟩) := (hL.at _).trans (hM.2 k hk).2.2.1


set_option maxHeartbeats 6400000 in
theorem spreadLink_walk (c : Cf) (a : Option Addr) (cap : Nat) (y9 x9 : Int) (y : Fr) (ya : Option Addr) (yc : Nat) (na : Option Addr) (ns : List Int) (nc : Nat) (w : World) (hbd : Bnds w) (hrow : Row w a c.P) (iN : inI c.N) (iP : inI c.Pi) (iE : inI c.E) (iG : inI c.G) (iF : inI c.F)
    (y1 : -9223372036854775808 ≤ y9) (y2 : y9 ≤ 9223372036854775807) (x1 : -9223372036854775808 ≤ x9) (x2 : x9 ≤ 9223372036854775807) (hyE : RowT w ya y.E) (iK : inI y.K) (iR : inI y.R) (iS : inI y.S) (iQ : inI y.P.K) (iV : inI y.P.V) (hns : Row w na ns) :
    Calls Tryz.prog 9 #[.agg #[.int .i64 c.N, .int .i64 c.Pi, .int .i64 c.E, .int .i64 c.G, .int .i64 c.F, .slice a c.P.length cap], .int .i64 y9, .int .i64 x9, .agg #[.int .i64 y.K, .int .i64 y.R, .int .i64 y.S, .int .i64 y.P.K, .int .i64 y.P.V, .slice ya y.E.length yc], .slice na ns.length nc] w fun e w' => e = .returned (.bool true) ∧ Below w.heap.size w w' := by
  have hB : Below w.heap.size w ((w.alloc (.cells #[.int .i64 c.N, .int .i64 c.Pi, .int .i64 c.E, .int .i64 c.G, .int .i64 c.F, .slice a c.P.length cap] 24)).alloc (.cells #[.int .i64 y.K, .int .i64 y.R, .int .i64 y.S, .int .i64 y.P.K, .int .i64 y.P.V, .slice ya y.E.length yc] 32)) := (alloc_below w _).alloc (by simp) _
  have hC : Blk ((w.alloc (.cells #[.int .i64 c.N, .int .i64 c.Pi, .int .i64 c.E, .int .i64 c.G, .int .i64 c.F, .slice a c.P.length cap] 24)).alloc (.cells #[.int .i64 y.K, .int .i64 y.R, .int .i64 y.S, .int .i64 y.P.K, .int .i64 y.P.V, .slice ya y.E.length yc] 32)) w.heap.size 24 (confBox c a cap) := (Blk.new w _ _).alloc _
  have hY : Blk ((w.alloc (.cells #[.int .i64 c.N, .int .i64 c.Pi, .int .i64 c.E, .int .i64 c.G, .int .i64 c.F, .slice a c.P.length cap] 24)).alloc (.cells #[.int .i64 y.K, .int .i64 y.R, .int .i64 y.S, .int .i64 y.P.K, .int .i64 y.P.V, .slice ya y.E.length yc] 32)) (w.heap.size + 1) 32 (frBox y ya yc) := Blk.newAt _ _ (by simp)
  have HCM := Lib.hid (fun W h1 h4 => ccalm_any c a cap ⟨2, 0, 0, 0, [], []⟩ none 0 none 0 y9 y ya yc na ns nc (1) W h1 (RowA.empty _ _) (Row.empty _ _) h4 ⟨y1, y2⟩ iK iR iV)
  obtain ⟨hx0, hf0⟩ := calmC_x c ⟨2, 0, 0, 0, [], []⟩ y9 y ns (1)
  generalize calmC c ⟨2, 0, 0, 0, [], []⟩ y9 y ns (1) = X at *
  have HF0 := Lib.hid hf0
  clear hf0
  go_enter Tryz.func9, Tryz.ntmps9
  go_upto_region 1 with fail
  generalize ((w.alloc (.cells #[.int .i64 c.N, .int .i64 c.Pi, .int .i64 c.E, .int .i64 c.G, .int .i64 c.F, .slice a c.P.length cap] 24)).alloc (.cells #[.int .i64 y.K, .int .i64 y.R, .int .i64 y.S, .int .i64 y.P.K, .int .i64 y.P.V, .slice ya y.E.length yc] 32)) = w1 at *
  go_wp2_with fail
  refine (known9_any _ (hbd.later hB)).mono ?_
  rintro e w2 ⟨rfl, hb⟩
  replace hB := hB.trans (hb.mono hB.size)
  replace hC := hC.later hb
  replace hY := hY.later hb
  clear hb
  have hqc := hC.at
  unfold confBox at hqc
  have hqy := hY.at
  unfold frBox at hqy
  go_wp2_with fail
  refine (HCM.out _ (hrow.later hB) (hns.later hB)).mono ?_
  rintro e w3 ⟨A, base, rfl, hM, hwb, ho1, ho2, hap, hpP, hpA, hpD, hpS, hb⟩
  replace hB := hB.trans (hb.mono hB.size)
  clear hb hqc hqy hC hY HCM
  simp only []
  refine at_K (by assumption) ?_
  refine wpList_case 11 24 (#[.int .i64 X.c.N, .int .i64 X.c.Pi, .int .i64 X.c.E, .int .i64 X.c.G, .int .i64 X.c.F, .slice A.ca X.c.P.length A.cc, .int .i64 X.f.K, .int .i64 X.f.At, .int .i64 X.f.F, .int .i64 X.f.To, .slice A.fa X.f.A.length A.fac, .slice A.fd X.f.D.length A.fdc, .int .i64 X.r, .int .i64 X.s, .int .i64 X.d, .slice A.sa X.sends.length A.sc, .slice A.ta X.st.length A.tc, .slice A.va X.dv.length A.vc]) rfl rfl rfl rfl rfl rfl rfl rfl (by simp [Value.oneCell']) (by simp) (by decide) ?_
  have hXb := Blk.new w3 37 (#[.int .i64 X.c.N, .int .i64 X.c.Pi, .int .i64 X.c.E, .int .i64 X.c.G, .int .i64 X.c.F, .slice A.ca X.c.P.length A.cc, .int .i64 X.f.K, .int .i64 X.f.At, .int .i64 X.f.F, .int .i64 X.f.To, .slice A.fa X.f.A.length A.fac, .slice A.fd X.f.D.length A.fdc, .int .i64 X.r, .int .i64 X.s, .int .i64 X.d, .slice A.sa X.sends.length A.sc, .slice A.ta X.st.length A.tc, .slice A.va X.dv.length A.vc])
  have hb3 := alloc_below w3 (.cells (#[.int .i64 X.c.N, .int .i64 X.c.Pi, .int .i64 X.c.E, .int .i64 X.c.G, .int .i64 X.c.F, .slice A.ca X.c.P.length A.cc, .int .i64 X.f.K, .int .i64 X.f.At, .int .i64 X.f.F, .int .i64 X.f.To, .slice A.fa X.f.A.length A.fac, .slice A.fd X.f.D.length A.fdc, .int .i64 X.r, .int .i64 X.s, .int .i64 X.d, .slice A.sa X.sends.length A.sc, .slice A.ta X.st.length A.tc, .slice A.va X.dv.length A.vc]) 37)
  generalize w3.alloc (.cells (#[.int .i64 X.c.N, .int .i64 X.c.Pi, .int .i64 X.c.E, .int .i64 X.c.G, .int .i64 X.c.F, .slice A.ca X.c.P.length A.cc, .int .i64 X.f.K, .int .i64 X.f.At, .int .i64 X.f.F, .int .i64 X.f.To, .slice A.fa X.f.A.length A.fac, .slice A.fd X.f.D.length A.fdc, .int .i64 X.r, .int .i64 X.s, .int .i64 X.d, .slice A.sa X.sends.length A.sc, .slice A.ta X.st.length A.tc, .slice A.va X.dv.length A.vc]) 37) = w4 at *
  clear ho1 ho2 hap hpP hpA hpD hpS
  have n6 := hx0.c.n6
  have n12 := hx0.c.n12
  have hq := hXb.at
  have hf := hXb.frozen
  have z2 : IntKind.i64.wrap (2 * X.c.N) = 2 * X.c.N := wrap_in _ (by omega) (by omega)
  go_upto_region 4 with fail
  go_wp2_with fail
  refine (within9_any x9 (2 * X.c.N) _ (by omega) (by omega)).mono ?_
  rintro e wl ⟨rfl, rfl⟩
  have p0 := Int.emod_nonneg x9 (show 2 * X.c.N ≠ 0 by omega)
  have p1 := Int.emod_lt_of_pos x9 (show 0 < 2 * X.c.N by omega)
  generalize x9 % (2 * X.c.N) = p at *
  go_upto_region 5 with fail
  clear hq hf z2
  obtain ⟨Y, hY⟩ : ∃ Y : Cs, Y = { X with f := { X.f with At := p } } := ⟨_, rfl⟩
  have hYb : Blk (w4.setCell ⟨w3.heap.size, 7, none⟩ (.int .i64 p)) w3.heap.size 37 (#[.int .i64 Y.c.N, .int .i64 Y.c.Pi, .int .i64 Y.c.E, .int .i64 Y.c.G, .int .i64 Y.c.F, .slice A.ca Y.c.P.length A.cc, .int .i64 Y.f.K, .int .i64 Y.f.At, .int .i64 Y.f.F, .int .i64 Y.f.To, .slice A.fa Y.f.A.length A.fac, .slice A.fd Y.f.D.length A.fdc, .int .i64 Y.r, .int .i64 Y.s, .int .i64 Y.d, .slice A.sa Y.sends.length A.sc, .slice A.ta Y.st.length A.tc, .slice A.va Y.dv.length A.vc]) := by subst hY; exact hXb.set 7 _
  have hb4 : Below w3.heap.size w3 (w4.setCell ⟨w3.heap.size, 7, none⟩ (.int .i64 p)) := hb3.setCell (p := ⟨w3.heap.size, 7, none⟩) (Nat.le_refl _) _
  have hx : CalmX Y 1 := by subst hY; exact hx0.withF _
  have hfY : Y.f = ⟨2, p, 0, 1000, [], []⟩ := by subst hY; show ({ X.f with At := p } : Fa) = _; rw [HF0.out]
  have hcN : Y.c.N = X.c.N := by subst hY; rfl
  have hMY0 : CsM Y A w3 := by subst hY; exact ⟨hM.P, hM.A, hM.D, hM.S, hM.T, hM.V⟩
  rw [← hcN] at n6 n12 p1
  have hB5 := hB.trans (hb4.mono hB.size)
  have hBw := hB.size
  clear hY hM hb3 hXb hx0 HF0 hcN
  generalize w4.setCell ⟨w3.heap.size, 7, none⟩ (.int .i64 p) = w5 at *
  have okY : Y.Ok := hx.ok (.inl rfl) (by rw [hfY]; show (0 : Nat) ≤ _; omega) (by rw [hfY]; intro q hq; cases hq)
  obtain ⟨Z, hZ⟩ : ∃ Z : Cs, Z = { Y with d := -1 } := ⟨_, rfl⟩
  have hxZ : CalmX Z (-1) := by subst hZ; exact ⟨hx.c, hx.r, hx.s0, hx.s1, rfl, hx.st, hx.dv, hx.sl, hx.sk, hx.sb, hx.sn⟩
  have hfZ : Z.f = ⟨2, p, 0, 1000, [], []⟩ := by subst hZ; exact hfY
  have okZ : Z.Ok := hxZ.ok (.inr rfl) (by rw [hfZ]; show (0 : Nat) ≤ _; omega) (by rw [hfZ]; intro q hq; cases hq)
  obtain ⟨N, hN⟩ : ∃ N : Nat, Y.c.N = N := ⟨Y.c.N.toNat, by omega⟩
  have hNZ : Z.c.N = N := by subst hZ; exact hN
  obtain ⟨S, hS⟩ : ∃ S, Y.sends = [S] := List.length_eq_one_iff.1 hx.sl
  have hSZ : Z.sends = [S] := by subst hZ; exact hS
  have HE := Lib.hid (show ∀ i : Nat, i < N → ((Y.end i).O = S ∨ (Y.end i).O = []) ∧ ((Z.end i).O = S ∨ (Z.end i).O = []) ∧ ((Y.end i).O = S ∨ (Z.end i).O = S) from fun i hi => by
    have := link_end okY hx.s1 hx.d hZ okZ hx.st hx.dv (by rw [hfY]) (by rw [hfY]) (by rw [hfY]; exact p0) (by rw [hfY]; exact p1) i (by omega)
    rw [hS] at this
    exact this)
  have HR1 := Lib.hid (show Calls Tryz.prog 19 #[.agg #[.int .i64 Y.c.N, .int .i64 Y.c.Pi, .int .i64 Y.c.E, .int .i64 Y.c.G, .int .i64 Y.c.F, .slice A.ca Y.c.P.length A.cc, .int .i64 Y.f.K, .int .i64 Y.f.At, .int .i64 Y.f.F, .int .i64 Y.f.To, .slice A.fa Y.f.A.length A.fac, .slice A.fd Y.f.D.length A.fdc, .int .i64 Y.r, .int .i64 Y.s, .int .i64 Y.d, .slice A.sa Y.sends.length A.sc, .slice A.ta Y.st.length A.tc, .slice A.va Y.dv.length A.vc]] w5 (SideRet 53 N Y.end w5) by
    have := crun_any Y A w5 (hbd.later hB5) okY (hMY0.later hb4)
    rw [show Y.c.N.toNat = N by omega] at this
    exact this)
  have HR2 := Lib.hid (show ∀ W, Below w3.heap.size w3 W → Calls Tryz.prog 19 #[.agg #[.int .i64 Z.c.N, .int .i64 Z.c.Pi, .int .i64 Z.c.E, .int .i64 Z.c.G, .int .i64 Z.c.F, .slice A.ca Z.c.P.length A.cc, .int .i64 Z.f.K, .int .i64 Z.f.At, .int .i64 Z.f.F, .int .i64 Z.f.To, .slice A.fa Z.f.A.length A.fac, .slice A.fd Z.f.D.length A.fdc, .int .i64 Z.r, .int .i64 Z.s, .int .i64 Z.d, .slice A.sa Z.sends.length A.sc, .slice A.ta Z.st.length A.tc, .slice A.va Z.dv.length A.vc]] W (SideRet 53 N Z.end W) from fun W h => by
    have hm : CsM Z A w3 := by subst hZ; exact ⟨hMY0.P, hMY0.A, hMY0.D, hMY0.S, hMY0.T, hMY0.V⟩
    have := crun_any Z A W (hbd.later (hB.trans (h.mono hB.size))) okZ (hm.later h)
    rw [show Z.c.N.toNat = N by omega] at this
    exact this)
  have HS3 := hMY0.S
  rw [hS] at HS3
  have hsn : S ≠ [] := by have := hx.sn; rw [hS] at this; exact this
  have HN := Lib.hid hN
  have HNZ := Lib.hid hNZ
  have hslZ : (0 : Int) < (Z.sends.length : Int) := by rw [hSZ]; show (0 : Int) < 1; omega
  have HZ := Lib.hid hZ
  have N12 : N ≤ 12 := by omega
  clear hfY hfZ hN hNZ hS hSZ hMY0 okY okZ hZ hxZ
  refine wp_region_list ?_
  refine wpList_load_row rfl 37 (.tmp 11) rfl w3.heap.size rfl 37 _ (0, 0) _ hYb Tryz.underlying37 rfl (by kernel_rfl) ?_
  go_wp2_with fail
  refine (HR1.out).mono ?_
  rintro e w6 ⟨lb, M, rfl, hlo, hL, hSM, hb⟩
  have hb6 := hb4.trans (hb.mono hb4.size)
  have hY6 := hYb.later hb
  have hlx : w3.heap.size < lb := Nat.lt_of_lt_of_le hYb.lt hlo
  generalize Y.end = G1 at *
  clear hb hYb hB5 HR1 hb4
  have hq := hY6.at
  have hf := hY6.frozen
  go_upto_region 7 with fail
  clear hq hf
  have hZb : Blk (w6.setCell ⟨w3.heap.size, 14, none⟩ (.int .i64 (-1))) w3.heap.size 37 (#[.int .i64 Z.c.N, .int .i64 Z.c.Pi, .int .i64 Z.c.E, .int .i64 Z.c.G, .int .i64 Z.c.F, .slice A.ca Z.c.P.length A.cc, .int .i64 Z.f.K, .int .i64 Z.f.At, .int .i64 Z.f.F, .int .i64 Z.f.To, .slice A.fa Z.f.A.length A.fac, .slice A.fd Z.f.D.length A.fdc, .int .i64 Z.r, .int .i64 Z.s, .int .i64 Z.d, .slice A.sa Z.sends.length A.sc, .slice A.ta Z.st.length A.tc, .slice A.va Z.dv.length A.vc]) := by rw [HZ.out]; exact hY6.set 14 _
  have hL7 := hL.far (p := ⟨w3.heap.size, 14, none⟩) (by show lb ≠ w3.heap.size; omega) (.int .i64 (-1))
  have hb7 := hb6.setCell (p := ⟨w3.heap.size, 14, none⟩) (Nat.le_refl _) (.int .i64 (-1))
  clear hb6 hY6 hL
  generalize w6.setCell ⟨w3.heap.size, 14, none⟩ (.int .i64 (-1)) = w7 at *
  refine wp_region_list ?_
  refine wpList_load_row rfl 37 (.tmp 11) rfl w3.heap.size rfl 37 _ (0, 0) _ hZb Tryz.underlying37 rfl (by kernel_rfl) ?_
  go_wp2_with fail
  refine (HR2.out _ hb7).mono ?_
  rintro e w8 ⟨lb2, M2, rfl, hlo2, hL2, hSM2, hb⟩
  have hb8 := hb7.trans (hb.mono hb7.size)
  have hZ8 := hZb.later hb
  have hL8 := hL7.later hb
  have hRS := HS3.later hb8
  have hB8 := hB.trans (hb8.mono hB.size)
  generalize Z.end = G2 at *
  clear hb hb7 hb8 hZb hL7 HR2 HS3 hlo hlo2
  obtain ⟨sb, so, hsa, -, hcell⟩ := hRS.get 0 (by simp)
  have hcell2 : w8.cell? ⟨sb, so, none⟩ = some (.string ⟨S.toArray⟩) := by simpa using hcell
  have hsb : sb < w8.heap.size := by
    rcases hRS.2 with e | ⟨b, off, e, hlt, _⟩
    · cases e
    · rw [hsa] at e; injection e with e; injection e with e; omega
  have hq := hZ8.at
  rw [hsa] at hq
  have dN : ((N : Int) != Z.c.N) = false := by rw [HNZ.out]; simp
  have dSS : (S == S) = true := by simp
  have dS0 : (S == []) = false := by simpa using hsn
  have dS1 : (([] : List UInt8) == S) = false := by rw [beq_eq_false_iff_ne]; exact fun e => hsn e.symm
  have dS2 : ([] == ([] : List UInt8)) = true := rfl
  have HC2 := Lib.hid hcell2
  have HQ := Lib.hid hq
  have HZ9 := Lib.hid hZ8
  clear hcell hRS HZ hcell2 hq
  have hq := HQ.out
  go_upto_region 10 with fail
  clear hq
  go_wp2
  go_loopw [14, 15, 16] (fun u d i W => ∃ k p q : Nat, k ≤ N ∧ u = .int .i64 p ∧ d = .int .i64 q ∧ i = .int .i64 k ∧ p + q ≤ k ∧ Below w8.heap.size w8 W) (fun _ _ i _ => N - (intOf i).toNat)
  case atStart => exact ⟨0, 0, 0, Nat.zero_le _, rfl, rfl, rfl, Nat.le_refl _, Below.refl _ _⟩
  case round =>
    obtain ⟨k, u, v, hk, rfl, rfl, rfl, huv, hbW⟩ := hrel
    have hq := (hZ8.later hbW).at
    rw [hsa] at hq
    have hcell2 : wr.cell? ⟨sb, so, none⟩ = some (.string ⟨S.toArray⟩) := by rw [hbW.cell (p := ⟨sb, so, none⟩) hsb]; exact HC2.out
    have hBW := hB8.trans (hbW.mono hB8.size)
    by_cases hlt : k < N
    · have d1 : decide ((k : Int) < Z.c.N) = true := by have := HNZ.out; simp; omega
      have g0 : (0 : Int) ≤ (k : Int) := by omega
      have g1 : (k : Int) < (N : Int) := by omega
      have c1 := side_cell (hL8.later hbW) hSM k hlt
      have c2 := side_cell (hL2.later hbW) hSM2 k hlt
      obtain ⟨e1, e2, e3⟩ := HE.out k hlt
      have w1 : IntKind.i64.wrap ((u : Int) + 1) = (u : Int) + 1 := wrap_in _ (by omega) (by omega)
      have w2 : IntKind.i64.wrap ((v : Int) + 1) = (v : Int) + 1 := wrap_in _ (by omega) (by omega)
      have hS0 := hsn
      clear HE
      by_cases q1 : (G1 k).O = S
      · rw [q1] at c1
        by_cases q2 : (G2 k).O = S
        · rw [q2] at c2
          clear q1 q2 e1 e2 e3 hsn hS0
          go_wp2
          go_quiet (fail)
          go_wp2
          go_roundw
          case rel => exact ⟨k + 1, u, v, by omega, by go_num, by go_num, by go_num, by omega, below_drewN hbW _⟩
          case measure => simp [intOf]; omega
        · have q3 : (G2 k).O = [] := by rcases e2 with e | e; exact absurd e q2; exact e
          rw [q3] at c2
          clear q1 q2 q3 e1 e2 e3 hsn hS0
          go_wp2
          go_quiet (fail)
          go_wp2
          go_roundw
          case rel => exact ⟨k + 1, u, (v + 1), by omega, by go_num, by go_num, by go_num, by omega, below_drewN hbW _⟩
          case measure => simp [intOf]; omega
      · have q3 : (G1 k).O = [] := by rcases e1 with e | e; exact absurd e q1; exact e
        have q2 : (G2 k).O = S := by rcases e3 with e | e; exact absurd e q1; exact e
        rw [q3] at c1
        rw [q2] at c2
        clear q1 q2 q3 e1 e2 e3 hsn hS0
        go_wp2
        go_quiet (fail)
        go_wp2
        go_roundw
        case rel => exact ⟨k + 1, (u + 1), v, by omega, by go_num, by go_num, by go_num, by omega, below_drewN hbW _⟩
        case measure => simp [intOf]; omega
    · have d1 : decide ((k : Int) < Z.c.N) = false := by have := HNZ.out; simp; omega
      have w1 : IntKind.i64.wrap ((u : Int) + (v : Int)) = (u : Int) + (v : Int) := wrap_in _ (by omega) (by omega)
      have d2 : decide ((u : Int) + (v : Int) ≤ Z.c.N) = true := by have := HNZ.out; simp; omega
      go_wp2
      go_ret
      exact ⟨rfl, hBW⟩

end Go.Proofs.YthhmedlefahccaaGreatDoor
namespace Go.Proofs.YthhmedlefahccaaGreatDoor
open Go.ChangeShapes Go.WideShapes Go.ChangeAt Go.RowKit Plait
set_option maxRecDepth 100000
open Go.ChangeMaps (open_string shut_string)
set_option linter.unusedVariables false

set_option maxRecDepth 100000 in
theorem spreadLink_lifted (os : Os) (started : os.Started) (H : Type) (enc : TypeId × Value → H) :
    ReturnsInHanded {} Tryz.checked os 9 .any (fun w args => (Rows.spreadLinkSpec.pre enc Tryz.prog Tryz.f9 [] false w args ∧ laidMetH Tryz.prog laidV w) ∧ sizedMet enc Tryz.prog Tryz.f9 (OpenSpec.ofChange Rows.spreadLinkSpec) false w args)
      (Rows.spreadLinkSpec.post enc Tryz.prog Tryz.f9 false true false false) := by
  refine returnsInHanded_of_change_and (C := Tryz.checked) (X := fun w _ => laidMetH Tryz.prog laidV w) (fun _ _ _ hh h => h.of_heap hh) own started (by kernel_rfl) Tryz.func9
    (ChangeSpec.witness_shaped (enc := enc) (C := Tryz.checked) (os := os) (X := fun w _ => laidMetH Tryz.prog laidV w) false (World.doorLaid Tryz.prog 400 os) #[.agg #[.int .i64 0, .int .i64 0, .int .i64 0, .int .i64 0, .int .i64 0, .slice none 0 0], .int .i64 0, .int .i64 0, .agg #[.int .i64 0, .int .i64 0, .int .i64 0, .int .i64 0, .int .i64 0, .slice none 0 0], .slice none 0 0] 8 rfl (World.shaped_of_RefB (by kernel_rfl) (by kernel_rfl)) (by kernel_rfl) (by kernel_rfl) (by kernel_rfl) (door_met os _)) ?_
  intro W base args ds gs before hval0 hW _ _ hL _
  have hval : ∀ (j : Nat) t v, Tryz.f9.params[j]? = some t → args[j]? = some v → Value.okWide Tryz.prog W .any base t v := hval0
  have hW' := hW
  obtain ⟨p, q, hA0, hV, rfl, hfz, hnd⟩ := hW
  have hA : DataW.TrodAll enc Tryz.prog W 0 (fun _ => true) true Tryz.f9.params.toList args.toList ds p := hA0
  rw [Tryz.params9] at hA hval
  obtain ⟨v0, vs0, d0, ds0, p0, q0, hargs, rfl, rfl, h0, r0⟩ := trodAll_cons hA
  obtain ⟨v1, vs1, d1, ds1, p1, q1, rfl, rfl, rfl, h1, r1⟩ := trodAll_cons r0
  obtain ⟨v2, vs2, d2, ds2, p2, q2, rfl, rfl, rfl, h2, r2⟩ := trodAll_cons r1
  obtain ⟨v3, vs3, d3, ds3, p3, q3, rfl, rfl, rfl, h3, r3⟩ := trodAll_cons r2
  obtain ⟨v4, vs4, d4, ds4, p4, q4, rfl, rfl, rfl, h4, r4⟩ := trodAll_cons r3
  obtain ⟨rfl, rfl, rfl⟩ := trodAll_nil r4
  obtain rfl : args = #[v0, v1, v2, v3, v4] := by cases args; simp_all
  obtain ⟨rfl, rfl⟩ := trodVars_none hV
  have k0 := h0
  have lt0 : ∀ x ∈ p0, x.block < W.heap.size := by obtain ⟨m, hm⟩ := k0; exact DataW.trod_lt m _ _ _ hm
  obtain ⟨c0, a0, cap0, rfl, w0, i0a, i0b, i0c, i0d, i0e⟩ := open_conf (hval 0 24 v0 rfl rfl) h0
  obtain ⟨a1, rfl, rfl, rfl, w1⟩ := open_int Tryz.underlying3 (hval 1 3 v1 rfl rfl) h1
  obtain ⟨a2, rfl, rfl, rfl, w2⟩ := open_int Tryz.underlying3 (hval 2 3 v2 rfl rfl) h2
  have k3 := h3
  have lt3 : ∀ x ∈ p3, x.block < W.heap.size := by obtain ⟨m, hm⟩ := k3; exact DataW.trod_lt m _ _ _ hm
  obtain ⟨c3, a3, cap3, rfl, w3, i3a, i3b, i3c, i3d, i3e⟩ := open_frame (hval 3 32 v3 rfl rfl) h3
  have k4 := h4
  have lt4 : ∀ x ∈ p4, x.block < W.heap.size := by obtain ⟨m, hm⟩ := k4; exact DataW.trod_lt m _ _ _ hm
  obtain ⟨a4, len4, cap4, rfl⟩ := okWide_slice Tryz.underlying22 (hval 4 22 v4 rfl rfl)
  obtain ⟨z4, e4, w4⟩ : ∃ zs : List Int, len4 = zs.length ∧ Row W a4 zs := by
    obtain ⟨fuel, hf⟩ := h4
    rcases open_ints Tryz.underlying22 Tryz.underlying3 (by kernel_rfl) hf with ⟨hcs, _⟩ | ⟨x, l, c, zs, hcs, _, hl, hm, hz, _, hcell, hwz⟩
    · simp [Value.cells] at hcs
      obtain ⟨rfl, rfl, rfl⟩ := hcs
      exact row_nil W
    · simp [Value.cells] at hcs
      obtain ⟨rfl, rfl, rfl⟩ := hcs
      exact row_of hl hm (by rw [hz]; split <;> omega) hcell hwz
  subst e4
  clear hA0 hval0
  refine (spreadLink_walk c0 a0 cap0 a1 a2 c3 a3 cap3 a4 z4 cap4 W (of_laid hL) w0 i0a i0b i0c i0d i0e (wf_lo w1) (wf_hi w1) (wf_lo w2) (wf_hi w2) w3 i3a i3b i3c i3d i3e w4).mono fun e W' ⟨he, bel⟩ => ?_
  subst he
  exact ⟨_, rfl, _, _, _, [], _, [], hW', trodAll_mk1 (shut_bool Tryz.underlying4 _), (trodAll_cons_mk (Below.trod laidOut (by kernel_rfl) (of_decide_eq_true (by kernel_rfl)) k0 bel lt0) (trodAll_cons_mk (shut_int Tryz.underlying3 w1) (trodAll_cons_mk (shut_int Tryz.underlying3 w2) (trodAll_cons_mk (Below.trod laidOut (by kernel_rfl) (of_decide_eq_true (by kernel_rfl)) k3 bel lt3) (trodAll_cons_mk (Below.trod laidOut (by kernel_rfl) (of_decide_eq_true (by kernel_rfl)) k4 bel lt4) trodAll_mk0))))), rfl, bel.frame _, fun h => by cases h⟩

theorem spreadLink_over : Rows.spreadLinkRow.holds Tryz.pinned (OpenSpec.ofChange Rows.spreadLinkSpec) :=
  OpenClaim.holds_of_wide 9 Tryz.f9 rfl rfl rfl rfl rfl rfl rfl ⟨rfl, rfl, rfl, rfl, rfl⟩ rfl rfl rfl rfl rfl (by kernel_rfl) Tryz.func9 (by kernel_rfl)
    (of_decide_eq_true (by kernel_rfl)) (by unfold Func.isWrapper; first | (rw [if_pos (by decide +kernel)]; kernel_rfl) | (rw [if_neg (by decide +kernel)]; exact ⟨rfl, rfl⟩))
    (fun os started H enc _ => spreadLink_lifted os started H enc)

theorem spreadLink_holds : Rows.SpreadLinkCardSaid :=
  Claim7.holds_tied_plain_at .later [] [.wider] true (true, "a5d9b23e4875e2a8724f766127c8c96d56c0320895d1daccf55c75c2fb92346b") false
    spreadLink_over (fun _ h => by cases h) (by kernel_rfl) (fun _ h => by cases h) spreadLink_row_tie rfl ⟨rfl, rfl⟩ (by kernel_rfl) rfl
    (fun f fn hf hfn => by
      obtain rfl : f = 9 := Option.some.inj ((show Tryz.prog.funcNamed Tryz.f9.name = some 9 by kernel_rfl).symm.trans hf) |>.symm
      obtain rfl : fn = Tryz.f9 := (Option.some.inj (Tryz.func9.symm.trans hfn)).symm
      exact ⟨by kernel_rfl, fun j t ht => by
        rw [Tryz.params9] at ht
        have hm : t ∈ [24, 3, 3, 32, 22] := by
          have := Array.mem_of_getElem? ht
          simpa using this
        have hall : ([24, 3, 3, 32, 22].all fun u => !Tryz.prog.wantsStandIn u) = true := by kernel_rfl
        exact (show Tryz.prog.wantsStandIn t = false by simpa using List.all_eq_true.1 hall t hm)⟩)
    (by kernel_rfl)
#print axioms spreadLink_holds
end Go.Proofs.YthhmedlefahccaaGreatDoor

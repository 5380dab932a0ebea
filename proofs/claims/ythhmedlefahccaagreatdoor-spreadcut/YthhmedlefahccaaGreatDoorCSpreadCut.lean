/-
  SpreadCut answers true for every input, and leaves its arguments as they were; the package's table of bounds is tied to the program's text. No condition.
-/
import Derived.Test.YthhmedlefahccaaGreatDoorK17
import Derived.Test.YthhmedlefahccaaGreatDoorK10
import Derived.Test.YthhmedlefahccaaGreatDoorTie
import Derived.Test.YthhmedlefahccaaGreatDoorCards
/-
  SpreadCut's walk.
-/
namespace Go.Proofs.YthhmedlefahccaaGreatDoor
open Go.RowKit Plait
set_option maxRecDepth 100000
set_option linter.unusedVariables false
set_option linter.unusedSimpArgs false


set_option maxHeartbeats 6400000 in
theorem spreadCut_walk (c : Cf) (a : Option Addr) (cap : Nat) (y9 x9 : Int) (y : Fr) (ya : Option Addr) (yc : Nat) (na : Option Addr) (ns : List Int) (nc : Nat) (up : Bool) (w : World) (hbd : Bnds w) (hrow : Row w a c.P) (iN : inI c.N) (iP : inI c.Pi) (iE : inI c.E) (iG : inI c.G) (iF : inI c.F)
    (y1 : -9223372036854775808 ≤ y9) (y2 : y9 ≤ 9223372036854775807) (x1 : -9223372036854775808 ≤ x9) (x2 : x9 ≤ 9223372036854775807) (hyE : RowT w ya y.E) (iK : inI y.K) (iR : inI y.R) (iS : inI y.S) (iQ : inI y.P.K) (iV : inI y.P.V) (hns : Row w na ns) :
    Calls Tryz.prog 8 #[.agg #[.int .i64 c.N, .int .i64 c.Pi, .int .i64 c.E, .int .i64 c.G, .int .i64 c.F, .slice a c.P.length cap], .int .i64 y9, .int .i64 x9, .agg #[.int .i64 y.K, .int .i64 y.R, .int .i64 y.S, .int .i64 y.P.K, .int .i64 y.P.V, .slice ya y.E.length yc], .slice na ns.length nc, .bool up] w fun e w' => e = .returned (.bool true) ∧ Below w.heap.size w w' := by
  cases up
  case false =>
    have hB : Below w.heap.size w ((w.alloc (.cells #[.int .i64 c.N, .int .i64 c.Pi, .int .i64 c.E, .int .i64 c.G, .int .i64 c.F, .slice a c.P.length cap] 24)).alloc (.cells #[.int .i64 y.K, .int .i64 y.R, .int .i64 y.S, .int .i64 y.P.K, .int .i64 y.P.V, .slice ya y.E.length yc] 32)) := (alloc_below w _).alloc (by simp) _
    have hC : Blk ((w.alloc (.cells #[.int .i64 c.N, .int .i64 c.Pi, .int .i64 c.E, .int .i64 c.G, .int .i64 c.F, .slice a c.P.length cap] 24)).alloc (.cells #[.int .i64 y.K, .int .i64 y.R, .int .i64 y.S, .int .i64 y.P.K, .int .i64 y.P.V, .slice ya y.E.length yc] 32)) w.heap.size 24 (confBox c a cap) := (Blk.new w _ _).alloc _
    have hY : Blk ((w.alloc (.cells #[.int .i64 c.N, .int .i64 c.Pi, .int .i64 c.E, .int .i64 c.G, .int .i64 c.F, .slice a c.P.length cap] 24)).alloc (.cells #[.int .i64 y.K, .int .i64 y.R, .int .i64 y.S, .int .i64 y.P.K, .int .i64 y.P.V, .slice ya y.E.length yc] 32)) (w.heap.size + 1) 32 (frBox y ya yc) := Blk.newAt _ _ (by simp)
    have HCM := Lib.hid (fun W h1 h4 => ccalm_any c a cap ⟨1, 0, 0, 0, [], []⟩ none 0 none 0 y9 y ya yc na ns nc (-1) W h1 (RowA.empty _ _) (Row.empty _ _) h4 ⟨y1, y2⟩ iK iR iV)
    obtain ⟨hx0, hf0⟩ := calmC_x c ⟨1, 0, 0, 0, [], []⟩ y9 y ns (-1)
    generalize calmC c ⟨1, 0, 0, 0, [], []⟩ y9 y ns (-1) = X at *
    have HF0 := Lib.hid hf0
    clear hf0
    go_enter Tryz.func8, Tryz.ntmps8
    go_upto_region 1 with fail
    generalize ((w.alloc (.cells #[.int .i64 c.N, .int .i64 c.Pi, .int .i64 c.E, .int .i64 c.G, .int .i64 c.F, .slice a c.P.length cap] 24)).alloc (.cells #[.int .i64 y.K, .int .i64 y.R, .int .i64 y.S, .int .i64 y.P.K, .int .i64 y.P.V, .slice ya y.E.length yc] 32)) = w1 at *
    go_wp2_with fail
    refine (known9_any _ (hbd.later hB)).mono ?_
    rintro e w2 ⟨rfl, hb⟩
    replace hB := hB.trans (hb.mono hB.size)
    replace hC := hC.later hb
    replace hY := hY.later hb
    clear hb
    have hqc := hC.at
    unfold confBox at hqc
    have hqy := hY.at
    unfold frBox at hqy
    go_wp2_with fail
    refine (HCM.out _ (hrow.later hB) (hns.later hB)).mono ?_
    rintro e w3 ⟨A, base, rfl, hM, hwb, ho1, ho2, hap, hpP, hpA, hpD, hpS, hb⟩
    replace hB := hB.trans (hb.mono hB.size)
    clear hb hqc hqy hC hY HCM
    simp only []
    refine at_K (by assumption) ?_
    refine wpList_case 14 30 (#[.int .i64 X.c.N, .int .i64 X.c.Pi, .int .i64 X.c.E, .int .i64 X.c.G, .int .i64 X.c.F, .slice A.ca X.c.P.length A.cc, .int .i64 X.f.K, .int .i64 X.f.At, .int .i64 X.f.F, .int .i64 X.f.To, .slice A.fa X.f.A.length A.fac, .slice A.fd X.f.D.length A.fdc, .int .i64 X.r, .int .i64 X.s, .int .i64 X.d, .slice A.sa X.sends.length A.sc, .slice A.ta X.st.length A.tc, .slice A.va X.dv.length A.vc]) rfl rfl rfl rfl rfl rfl rfl rfl (by simp [Value.oneCell']) (by simp) (by decide) ?_
    have hXb := Blk.new w3 37 (#[.int .i64 X.c.N, .int .i64 X.c.Pi, .int .i64 X.c.E, .int .i64 X.c.G, .int .i64 X.c.F, .slice A.ca X.c.P.length A.cc, .int .i64 X.f.K, .int .i64 X.f.At, .int .i64 X.f.F, .int .i64 X.f.To, .slice A.fa X.f.A.length A.fac, .slice A.fd X.f.D.length A.fdc, .int .i64 X.r, .int .i64 X.s, .int .i64 X.d, .slice A.sa X.sends.length A.sc, .slice A.ta X.st.length A.tc, .slice A.va X.dv.length A.vc])
    have hb3 := alloc_below w3 (.cells (#[.int .i64 X.c.N, .int .i64 X.c.Pi, .int .i64 X.c.E, .int .i64 X.c.G, .int .i64 X.c.F, .slice A.ca X.c.P.length A.cc, .int .i64 X.f.K, .int .i64 X.f.At, .int .i64 X.f.F, .int .i64 X.f.To, .slice A.fa X.f.A.length A.fac, .slice A.fd X.f.D.length A.fdc, .int .i64 X.r, .int .i64 X.s, .int .i64 X.d, .slice A.sa X.sends.length A.sc, .slice A.ta X.st.length A.tc, .slice A.va X.dv.length A.vc]) 37)
    generalize w3.alloc (.cells (#[.int .i64 X.c.N, .int .i64 X.c.Pi, .int .i64 X.c.E, .int .i64 X.c.G, .int .i64 X.c.F, .slice A.ca X.c.P.length A.cc, .int .i64 X.f.K, .int .i64 X.f.At, .int .i64 X.f.F, .int .i64 X.f.To, .slice A.fa X.f.A.length A.fac, .slice A.fd X.f.D.length A.fdc, .int .i64 X.r, .int .i64 X.s, .int .i64 X.d, .slice A.sa X.sends.length A.sc, .slice A.ta X.st.length A.tc, .slice A.va X.dv.length A.vc]) 37) = w4 at *
    clear ho1 ho2 hap hpP hpA hpD hpS
    have n6 := hx0.c.n6
    have n12 := hx0.c.n12
    have hq := hXb.at
    have hf := hXb.frozen
    go_upto_region 7 with fail
    go_wp2_with fail
    refine (within9_any x9 X.c.N _ (by omega) (by omega)).mono ?_
    rintro e wl ⟨rfl, rfl⟩
    have p0 := Int.emod_nonneg x9 (show X.c.N ≠ 0 by omega)
    have p1 := Int.emod_lt_of_pos x9 (show 0 < X.c.N by omega)
    generalize x9 % X.c.N = p at *
    go_upto_region 8 with fail
    clear hq hf
    obtain ⟨Y, hY⟩ : ∃ Y : Cs, Y = { X with f := { X.f with At := p } } := ⟨_, rfl⟩
    have hYb : Blk (w4.setCell ⟨w3.heap.size, 7, none⟩ (.int .i64 p)) w3.heap.size 37 (#[.int .i64 Y.c.N, .int .i64 Y.c.Pi, .int .i64 Y.c.E, .int .i64 Y.c.G, .int .i64 Y.c.F, .slice A.ca Y.c.P.length A.cc, .int .i64 Y.f.K, .int .i64 Y.f.At, .int .i64 Y.f.F, .int .i64 Y.f.To, .slice A.fa Y.f.A.length A.fac, .slice A.fd Y.f.D.length A.fdc, .int .i64 Y.r, .int .i64 Y.s, .int .i64 Y.d, .slice A.sa Y.sends.length A.sc, .slice A.ta Y.st.length A.tc, .slice A.va Y.dv.length A.vc]) := by subst hY; exact hXb.set 7 _
    have hb4 : Below w3.heap.size w3 (w4.setCell ⟨w3.heap.size, 7, none⟩ (.int .i64 p)) := hb3.setCell (p := ⟨w3.heap.size, 7, none⟩) (Nat.le_refl _) _
    have hMY : CsM Y A (w4.setCell ⟨w3.heap.size, 7, none⟩ (.int .i64 p)) := by
      have h := hM.later hb4
      subst hY
      exact ⟨h.P, h.A, h.D, h.S, h.T, h.V⟩
    have hx : CalmX Y (-1) := by subst hY; exact hx0.withF _
    have hfY : Y.f = ⟨1, p, 0, 1000, [], []⟩ := by subst hY; show ({ X.f with At := p } : Fa) = _; rw [HF0.out]
    have hcN : Y.c.N = X.c.N := by subst hY; rfl
    rw [← hcN] at n6 n12 p1
    have hB5 := hB.trans (hb4.mono hB.size)
    clear hY hM hb3 hb4 hXb hB hx0 HF0 hcN
    generalize w4.setCell ⟨w3.heap.size, 7, none⟩ (.int .i64 p) = w5 at *
    generalize w3.heap.size = xb at *
    have okY : Y.Ok := hx.ok (by first | exact .inl rfl | exact .inr rfl) (by rw [hfY]; show (0 : Nat) ≤ _; omega) (by rw [hfY]; intro q hq; cases hq)
    obtain ⟨N, hN⟩ : ∃ N : Nat, Y.c.N = N := ⟨Y.c.N.toNat, by omega⟩
    have HR := crun_any Y A w5 (hbd.later hB5) okY hMY
    rw [show Y.c.N.toNat = N by omega] at HR
    have HE := Lib.hid (show ∀ i : Nat, i < N → (Y.end i).O = if distI Y.c.N Y.s p (-1) < distI Y.c.N Y.s i (-1) then [] else Y.sends.getD 0 [] from fun i hi => by
      have := cut_end okY hx.s1 hx.st hx.dv (by rw [hfY]) (by rw [hfY]) (by rw [hfY, hx.r]; show (0 : Int) < 1000; omega) (by rw [hfY]; exact p0) (by rw [hfY]; exact p1) i (by omega)
      rw [hfY, hx.d] at this
      exact this)
    have HP := Lib.hid (show ∀ i : Nat, i < N → (i : Int) ≠ Y.s → 0 < distI Y.c.N Y.s i (-1) from fun i hi hne => by
      have := dist_pos okY hx.s1 i (by omega) hne
      rw [hx.d] at this
      exact this)
    obtain ⟨S, hS⟩ : ∃ S, Y.sends = [S] := List.length_eq_one_iff.1 hx.sl
    have HSD := Lib.hid (show Y.sends.getD 0 [] = S by rw [hS]; rfl)
    have hRS := hMY.S
    rw [hS] at hRS
    have HFA := Lib.hid (show Y.f.At = p by rw [hfY])
    have s0 := hx.s0
    have s1 := hx.s1
    have N12 : N ≤ 12 := by omega
    have HN := Lib.hid hN
    have HR2 := Lib.hid HR
    clear hS hfY hN HR hMY okY
    refine wp_region_list ?_
    refine wpList_load_row rfl 37 (.tmp 14) rfl xb rfl 37 _ (0, 0) _ hYb Tryz.underlying37 rfl (by kernel_rfl) ?_
    go_wp2_with fail
    refine (HR2.out).mono ?_
    rintro e w6 ⟨lb, M, rfl, hlo, hL, hSM, hb⟩
    have hB6 := hB5.trans (hb.mono hB5.size)
    have hY6 := hYb.later hb
    replace hRS := hRS.later hb
    generalize Y.end = G at *
    clear hb hYb hB5 HR2
    have hq := hY6.at
    have hql := hL.at
    have dN : ((N : Int) != Y.c.N) = false := by rw [HN.out]; simp
    by_cases hps : p = Y.s
    · have dP : (Y.f.At == Y.s) = true := by rw [HFA.out, hps]; simp
      have HZ := Lib.hid (show ∀ i : Nat, i < N → (i : Int) ≠ Y.s → (G i).O = [] from fun i hi hne => by
        rw [HE.out i hi, hps, dist_self, if_pos (HP.out i hi hne)])
      clear HE HP HSD HFA hps
      go_wp2
      go_loopw [16] (fun i W => ∃ k : Nat, k ≤ N ∧ i = .int .i64 k ∧ W = w6) (fun i _ => N - (intOf i).toNat)
      case atStart => exact ⟨0, Nat.zero_le _, rfl, rfl⟩
      case round =>
        obtain ⟨k, hk, rfl, rfl⟩ := hrel
        by_cases hlt : k < N
        · have d1 : decide ((k : Int) < (N : Int)) = true := by simp; omega
          have d1' : decide (k < N) = true := by simpa using hlt
          have g0 : (0 : Int) ≤ (k : Int) := by omega
          have g1 : (k : Int) < (N : Int) := by omega
          have hc := (hSM.2 k hlt).2.2.1
          by_cases hks : (k : Int) = Y.s
          · have d2 : ((k : Int) != Y.s) = false := by rw [hks]; simp
            clear hks
            go_wp2
            go_roundw
            case rel => exact ⟨k + 1, by omega, by go_num, by trivial⟩
            case measure => simp [intOf]; omega
          · have d2 : ((k : Int) != Y.s) = true := by simpa using hks
            rw [HZ.out k hlt hks] at hc
            clear hks
            go_wp2
            go_roundw
            case rel => exact ⟨k + 1, by omega, by go_num, by trivial⟩
            case measure => simp [intOf]; omega
        · have d1 : decide ((k : Int) < (N : Int)) = false := by simp; omega
          have d1' : decide (k < N) = false := by simpa using hlt
          go_wp2
          go_ret
          exact ⟨rfl, hB6⟩
    · have dP : (Y.f.At == Y.s) = false := by rw [HFA.out]; simpa using hps
      have HD := Lib.hid (fun (z : Int) (z0 : 0 ≤ z) (z1 : z < Y.c.N) W => rDist_any Y.c.N Y.s z (-1) W (by omega) (by omega) (by omega) (by omega) (by omega) (by omega) (by first | exact .inl rfl | exact .inr rfl))
      have HDP := Lib.hid (fun W => HD.out Y.f.At (by rw [HFA.out]; exact p0) (by rw [HFA.out]; exact p1) W)
      rw [← HFA.out, HSD.out] at HE
      obtain ⟨sb, so, hsa, -, hcell⟩ := hRS.get 0 (by simp)
      rw [hsa] at hq
      have hcell2 : w6.cell? ⟨sb, so, none⟩ = some (.string ⟨S.toArray⟩) := by simpa using hcell
      have hsl1 : (0 : Int) < (Y.sends.length : Int) := by rw [hx.sl]; decide
      have dS : (S == S) = true := by simp
      clear HP hps HFA HSD hcell hRS hsa
      go_wp2_with fail
      refine (HDP.out _).mono ?_
      rintro e wl ⟨rfl, rfl⟩
      generalize distI Y.c.N Y.s Y.f.At (-1) = far at *
      go_wp2
      go_loopw [18] (fun i W => ∃ k : Nat, k ≤ N ∧ i = .int .i64 k ∧ W = w6) (fun i _ => N - (intOf i).toNat)
      case atStart => exact ⟨0, Nat.zero_le _, rfl, rfl⟩
      case round =>
        obtain ⟨k, hk, rfl, rfl⟩ := hrel
        by_cases hlt : k < N
        · have d1 : decide ((k : Int) < (N : Int)) = true := by simp; omega
          have d1' : decide (k < N) = true := by simpa using hlt
          have g0 : (0 : Int) ≤ (k : Int) := by omega
          have g1 : (k : Int) < (N : Int) := by omega
          have hc := (hSM.2 k hlt).2.2.1
          have HK := Lib.hid (fun W => HD.out (k : Int) (by omega) (by have := HN.out; omega) W)
          have HO := Lib.hid (HE.out k hlt)
          generalize distI Y.c.N Y.s k (-1) = dk at *
          by_cases hq2 : far < dk
          · have d2 : decide (far < dk) = true := by simpa using hq2
            rw [HO.out, if_pos hq2] at hc
            clear hq2
            go_wp2_with fail
            refine (HK.out _).mono ?_
            rintro e wl ⟨rfl, rfl⟩
            go_wp2
            go_roundw
            case rel => exact ⟨k + 1, by omega, by go_num, by trivial⟩
            case measure => simp [intOf]; omega
          · have d2 : decide (far < dk) = false := by simpa using hq2
            rw [HO.out, if_neg hq2] at hc
            clear hq2
            go_wp2_with fail
            refine (HK.out _).mono ?_
            rintro e wl ⟨rfl, rfl⟩
            go_wp2
            go_roundw
            case rel => exact ⟨k + 1, by omega, by go_num, by trivial⟩
            case measure => simp [intOf]; omega
        · have d1 : decide ((k : Int) < (N : Int)) = false := by simp; omega
          have d1' : decide (k < N) = false := by simpa using hlt
          go_wp2
          go_ret
          exact ⟨rfl, hB6⟩
  case true =>
    have hB : Below w.heap.size w ((w.alloc (.cells #[.int .i64 c.N, .int .i64 c.Pi, .int .i64 c.E, .int .i64 c.G, .int .i64 c.F, .slice a c.P.length cap] 24)).alloc (.cells #[.int .i64 y.K, .int .i64 y.R, .int .i64 y.S, .int .i64 y.P.K, .int .i64 y.P.V, .slice ya y.E.length yc] 32)) := (alloc_below w _).alloc (by simp) _
    have hC : Blk ((w.alloc (.cells #[.int .i64 c.N, .int .i64 c.Pi, .int .i64 c.E, .int .i64 c.G, .int .i64 c.F, .slice a c.P.length cap] 24)).alloc (.cells #[.int .i64 y.K, .int .i64 y.R, .int .i64 y.S, .int .i64 y.P.K, .int .i64 y.P.V, .slice ya y.E.length yc] 32)) w.heap.size 24 (confBox c a cap) := (Blk.new w _ _).alloc _
    have hY : Blk ((w.alloc (.cells #[.int .i64 c.N, .int .i64 c.Pi, .int .i64 c.E, .int .i64 c.G, .int .i64 c.F, .slice a c.P.length cap] 24)).alloc (.cells #[.int .i64 y.K, .int .i64 y.R, .int .i64 y.S, .int .i64 y.P.K, .int .i64 y.P.V, .slice ya y.E.length yc] 32)) (w.heap.size + 1) 32 (frBox y ya yc) := Blk.newAt _ _ (by simp)
    have HCM := Lib.hid (fun W h1 h4 => ccalm_any c a cap ⟨1, 0, 0, 0, [], []⟩ none 0 none 0 y9 y ya yc na ns nc (1) W h1 (RowA.empty _ _) (Row.empty _ _) h4 ⟨y1, y2⟩ iK iR iV)
    obtain ⟨hx0, hf0⟩ := calmC_x c ⟨1, 0, 0, 0, [], []⟩ y9 y ns (1)
    generalize calmC c ⟨1, 0, 0, 0, [], []⟩ y9 y ns (1) = X at *
    have HF0 := Lib.hid hf0
    clear hf0
    go_enter Tryz.func8, Tryz.ntmps8
    go_upto_region 1 with fail
    generalize ((w.alloc (.cells #[.int .i64 c.N, .int .i64 c.Pi, .int .i64 c.E, .int .i64 c.G, .int .i64 c.F, .slice a c.P.length cap] 24)).alloc (.cells #[.int .i64 y.K, .int .i64 y.R, .int .i64 y.S, .int .i64 y.P.K, .int .i64 y.P.V, .slice ya y.E.length yc] 32)) = w1 at *
    go_wp2_with fail
    refine (known9_any _ (hbd.later hB)).mono ?_
    rintro e w2 ⟨rfl, hb⟩
    replace hB := hB.trans (hb.mono hB.size)
    replace hC := hC.later hb
    replace hY := hY.later hb
    clear hb
    have hqc := hC.at
    unfold confBox at hqc
    have hqy := hY.at
    unfold frBox at hqy
    go_wp2_with fail
    refine (HCM.out _ (hrow.later hB) (hns.later hB)).mono ?_
    rintro e w3 ⟨A, base, rfl, hM, hwb, ho1, ho2, hap, hpP, hpA, hpD, hpS, hb⟩
    replace hB := hB.trans (hb.mono hB.size)
    clear hb hqc hqy hC hY HCM
    simp only []
    refine at_K (by assumption) ?_
    refine wpList_case 14 30 (#[.int .i64 X.c.N, .int .i64 X.c.Pi, .int .i64 X.c.E, .int .i64 X.c.G, .int .i64 X.c.F, .slice A.ca X.c.P.length A.cc, .int .i64 X.f.K, .int .i64 X.f.At, .int .i64 X.f.F, .int .i64 X.f.To, .slice A.fa X.f.A.length A.fac, .slice A.fd X.f.D.length A.fdc, .int .i64 X.r, .int .i64 X.s, .int .i64 X.d, .slice A.sa X.sends.length A.sc, .slice A.ta X.st.length A.tc, .slice A.va X.dv.length A.vc]) rfl rfl rfl rfl rfl rfl rfl rfl (by simp [Value.oneCell']) (by simp) (by decide) ?_
    have hXb := Blk.new w3 37 (#[.int .i64 X.c.N, .int .i64 X.c.Pi, .int .i64 X.c.E, .int .i64 X.c.G, .int .i64 X.c.F, .slice A.ca X.c.P.length A.cc, .int .i64 X.f.K, .int .i64 X.f.At, .int .i64 X.f.F, .int .i64 X.f.To, .slice A.fa X.f.A.length A.fac, .slice A.fd X.f.D.length A.fdc, .int .i64 X.r, .int .i64 X.s, .int .i64 X.d, .slice A.sa X.sends.length A.sc, .slice A.ta X.st.length A.tc, .slice A.va X.dv.length A.vc])
    have hb3 := alloc_below w3 (.cells (#[.int .i64 X.c.N, .int .i64 X.c.Pi, .int .i64 X.c.E, .int .i64 X.c.G, .int .i64 X.c.F, .slice A.ca X.c.P.length A.cc, .int .i64 X.f.K, .int .i64 X.f.At, .int .i64 X.f.F, .int .i64 X.f.To, .slice A.fa X.f.A.length A.fac, .slice A.fd X.f.D.length A.fdc, .int .i64 X.r, .int .i64 X.s, .int .i64 X.d, .slice A.sa X.sends.length A.sc, .slice A.ta X.st.length A.tc, .slice A.va X.dv.length A.vc]) 37)
    generalize w3.alloc (.cells (#[.int .i64 X.c.N, .int .i64 X.c.Pi, .int .i64 X.c.E, .int .i64 X.c.G, .int .i64 X.c.F, .slice A.ca X.c.P.length A.cc, .int .i64 X.f.K, .int .i64 X.f.At, .int .i64 X.f.F, .int .i64 X.f.To, .slice A.fa X.f.A.length A.fac, .slice A.fd X.f.D.length A.fdc, .int .i64 X.r, .int .i64 X.s, .int .i64 X.d, .slice A.sa X.sends.length A.sc, .slice A.ta X.st.length A.tc, .slice A.va X.dv.length A.vc]) 37) = w4 at *
    clear ho1 ho2 hap hpP hpA hpD hpS
    have n6 := hx0.c.n6
    have n12 := hx0.c.n12
    have hq := hXb.at
    have hf := hXb.frozen
    go_upto_region 7 with fail
    go_wp2_with fail
    refine (within9_any x9 X.c.N _ (by omega) (by omega)).mono ?_
    rintro e wl ⟨rfl, rfl⟩
    have p0 := Int.emod_nonneg x9 (show X.c.N ≠ 0 by omega)
    have p1 := Int.emod_lt_of_pos x9 (show 0 < X.c.N by omega)
    generalize x9 % X.c.N = p at *
    go_upto_region 8 with fail
    clear hq hf
    obtain ⟨Y, hY⟩ : ∃ Y : Cs, Y = { X with f := { X.f with At := p } } := ⟨_, rfl⟩
    have hYb : Blk (w4.setCell ⟨w3.heap.size, 7, none⟩ (.int .i64 p)) w3.heap.size 37 (#[.int .i64 Y.c.N, .int .i64 Y.c.Pi, .int .i64 Y.c.E, .int .i64 Y.c.G, .int .i64 Y.c.F, .slice A.ca Y.c.P.length A.cc, .int .i64 Y.f.K, .int .i64 Y.f.At, .int .i64 Y.f.F, .int .i64 Y.f.To, .slice A.fa Y.f.A.length A.fac, .slice A.fd Y.f.D.length A.fdc, .int .i64 Y.r, .int .i64 Y.s, .int .i64 Y.d, .slice A.sa Y.sends.length A.sc, .slice A.ta Y.st.length A.tc, .slice A.va Y.dv.length A.vc]) := by subst hY; exact hXb.set 7 _
    have hb4 : Below w3.heap.size w3 (w4.setCell ⟨w3.heap.size, 7, none⟩ (.int .i64 p)) := hb3.setCell (p := ⟨w3.heap.size, 7, none⟩) (Nat.le_refl _) _
    have hMY : CsM Y A (w4.setCell ⟨w3.heap.size, 7, none⟩ (.int .i64 p)) := by
      have h := hM.later hb4
      subst hY
      exact ⟨h.P, h.A, h.D, h.S, h.T, h.V⟩
    have hx : CalmX Y (1) := by subst hY; exact hx0.withF _
    have hfY : Y.f = ⟨1, p, 0, 1000, [], []⟩ := by subst hY; show ({ X.f with At := p } : Fa) = _; rw [HF0.out]
    have hcN : Y.c.N = X.c.N := by subst hY; rfl
    rw [← hcN] at n6 n12 p1
    have hB5 := hB.trans (hb4.mono hB.size)
    clear hY hM hb3 hb4 hXb hB hx0 HF0 hcN
    generalize w4.setCell ⟨w3.heap.size, 7, none⟩ (.int .i64 p) = w5 at *
    generalize w3.heap.size = xb at *
    have okY : Y.Ok := hx.ok (by first | exact .inl rfl | exact .inr rfl) (by rw [hfY]; show (0 : Nat) ≤ _; omega) (by rw [hfY]; intro q hq; cases hq)
    obtain ⟨N, hN⟩ : ∃ N : Nat, Y.c.N = N := ⟨Y.c.N.toNat, by omega⟩
    have HR := crun_any Y A w5 (hbd.later hB5) okY hMY
    rw [show Y.c.N.toNat = N by omega] at HR
    have HE := Lib.hid (show ∀ i : Nat, i < N → (Y.end i).O = if distI Y.c.N Y.s p (1) < distI Y.c.N Y.s i (1) then [] else Y.sends.getD 0 [] from fun i hi => by
      have := cut_end okY hx.s1 hx.st hx.dv (by rw [hfY]) (by rw [hfY]) (by rw [hfY, hx.r]; show (0 : Int) < 1000; omega) (by rw [hfY]; exact p0) (by rw [hfY]; exact p1) i (by omega)
      rw [hfY, hx.d] at this
      exact this)
    have HP := Lib.hid (show ∀ i : Nat, i < N → (i : Int) ≠ Y.s → 0 < distI Y.c.N Y.s i (1) from fun i hi hne => by
      have := dist_pos okY hx.s1 i (by omega) hne
      rw [hx.d] at this
      exact this)
    obtain ⟨S, hS⟩ : ∃ S, Y.sends = [S] := List.length_eq_one_iff.1 hx.sl
    have HSD := Lib.hid (show Y.sends.getD 0 [] = S by rw [hS]; rfl)
    have hRS := hMY.S
    rw [hS] at hRS
    have HFA := Lib.hid (show Y.f.At = p by rw [hfY])
    have s0 := hx.s0
    have s1 := hx.s1
    have N12 : N ≤ 12 := by omega
    have HN := Lib.hid hN
    have HR2 := Lib.hid HR
    clear hS hfY hN HR hMY okY
    refine wp_region_list ?_
    refine wpList_load_row rfl 37 (.tmp 14) rfl xb rfl 37 _ (0, 0) _ hYb Tryz.underlying37 rfl (by kernel_rfl) ?_
    go_wp2_with fail
    refine (HR2.out).mono ?_
    rintro e w6 ⟨lb, M, rfl, hlo, hL, hSM, hb⟩
    have hB6 := hB5.trans (hb.mono hB5.size)
    have hY6 := hYb.later hb
    replace hRS := hRS.later hb
    generalize Y.end = G at *
    clear hb hYb hB5 HR2
    have hq := hY6.at
    have hql := hL.at
    have dN : ((N : Int) != Y.c.N) = false := by rw [HN.out]; simp
    by_cases hps : p = Y.s
    · have dP : (Y.f.At == Y.s) = true := by rw [HFA.out, hps]; simp
      have HZ := Lib.hid (show ∀ i : Nat, i < N → (i : Int) ≠ Y.s → (G i).O = [] from fun i hi hne => by
        rw [HE.out i hi, hps, dist_self, if_pos (HP.out i hi hne)])
      clear HE HP HSD HFA hps
      go_wp2
      go_loopw [16] (fun i W => ∃ k : Nat, k ≤ N ∧ i = .int .i64 k ∧ W = w6) (fun i _ => N - (intOf i).toNat)
      case atStart => exact ⟨0, Nat.zero_le _, rfl, rfl⟩
      case round =>
        obtain ⟨k, hk, rfl, rfl⟩ := hrel
        by_cases hlt : k < N
        · have d1 : decide ((k : Int) < (N : Int)) = true := by simp; omega
          have d1' : decide (k < N) = true := by simpa using hlt
          have g0 : (0 : Int) ≤ (k : Int) := by omega
          have g1 : (k : Int) < (N : Int) := by omega
          have hc := (hSM.2 k hlt).2.2.1
          by_cases hks : (k : Int) = Y.s
          · have d2 : ((k : Int) != Y.s) = false := by rw [hks]; simp
            clear hks
            go_wp2
            go_roundw
            case rel => exact ⟨k + 1, by omega, by go_num, by trivial⟩
            case measure => simp [intOf]; omega
          · have d2 : ((k : Int) != Y.s) = true := by simpa using hks
            rw [HZ.out k hlt hks] at hc
            clear hks
            go_wp2
            go_roundw
            case rel => exact ⟨k + 1, by omega, by go_num, by trivial⟩
            case measure => simp [intOf]; omega
        · have d1 : decide ((k : Int) < (N : Int)) = false := by simp; omega
          have d1' : decide (k < N) = false := by simpa using hlt
          go_wp2
          go_ret
          exact ⟨rfl, hB6⟩
    · have dP : (Y.f.At == Y.s) = false := by rw [HFA.out]; simpa using hps
      have HD := Lib.hid (fun (z : Int) (z0 : 0 ≤ z) (z1 : z < Y.c.N) W => rDist_any Y.c.N Y.s z (1) W (by omega) (by omega) (by omega) (by omega) (by omega) (by omega) (by first | exact .inl rfl | exact .inr rfl))
      have HDP := Lib.hid (fun W => HD.out Y.f.At (by rw [HFA.out]; exact p0) (by rw [HFA.out]; exact p1) W)
      rw [← HFA.out, HSD.out] at HE
      obtain ⟨sb, so, hsa, -, hcell⟩ := hRS.get 0 (by simp)
      rw [hsa] at hq
      have hcell2 : w6.cell? ⟨sb, so, none⟩ = some (.string ⟨S.toArray⟩) := by simpa using hcell
      have hsl1 : (0 : Int) < (Y.sends.length : Int) := by rw [hx.sl]; decide
      have dS : (S == S) = true := by simp
      clear HP hps HFA HSD hcell hRS hsa
      go_wp2_with fail
      refine (HDP.out _).mono ?_
      rintro e wl ⟨rfl, rfl⟩
      generalize distI Y.c.N Y.s Y.f.At (1) = far at *
      go_wp2
      go_loopw [18] (fun i W => ∃ k : Nat, k ≤ N ∧ i = .int .i64 k ∧ W = w6) (fun i _ => N - (intOf i).toNat)
      case atStart => exact ⟨0, Nat.zero_le _, rfl, rfl⟩
      case round =>
        obtain ⟨k, hk, rfl, rfl⟩ := hrel
        by_cases hlt : k < N
        · have d1 : decide ((k : Int) < (N : Int)) = true := by simp; omega
          have d1' : decide (k < N) = true := by simpa using hlt
          have g0 : (0 : Int) ≤ (k : Int) := by omega
          have g1 : (k : Int) < (N : Int) := by omega
          have hc := (hSM.2 k hlt).2.2.1
          have HK := Lib.hid (fun W => HD.out (k : Int) (by omega) (by have := HN.out; omega) W)
          have HO := Lib.hid (HE.out k hlt)
          generalize distI Y.c.N Y.s k (1) = dk at *
          by_cases hq2 : far < dk
          · have d2 : decide (far < dk) = true := by simpa using hq2
            rw [HO.out, if_pos hq2] at hc
            clear hq2
            go_wp2_with fail
            refine (HK.out _).mono ?_
            rintro e wl ⟨rfl, rfl⟩
            go_wp2
            go_roundw
            case rel => exact ⟨k + 1, by omega, by go_num, by trivial⟩
            case measure => simp [intOf]; omega
          · have d2 : decide (far < dk) = false := by simpa using hq2
            rw [HO.out, if_neg hq2] at hc
            clear hq2
            go_wp2_with fail
            refine (HK.out _).mono ?_
            rintro e wl ⟨rfl, rfl⟩
            go_wp2
            go_roundw
            case rel => exact ⟨k + 1, by omega, by go_num, by trivial⟩
            case measure => simp [intOf]; omega
        · have d1 : decide ((k : Int) < (N : Int)) = false := by simp; omega
          have d1' : decide (k < N) = false := by simpa using hlt
          go_wp2
          go_ret
          exact ⟨rfl, hB6⟩

end Go.Proofs.YthhmedlefahccaaGreatDoor
namespace Go.Proofs.YthhmedlefahccaaGreatDoor
open Go.ChangeShapes Go.WideShapes Go.ChangeAt Go.RowKit Plait
set_option maxRecDepth 100000
open Go.ChangeMaps (open_string shut_string)
set_option linter.unusedVariables false

set_option maxRecDepth 100000 in
theorem spreadCut_lifted (os : Os) (started : os.Started) (H : Type) (enc : TypeId × Value → H) :
    ReturnsInHanded {} Tryz.checked os 8 .any (fun w args => (Rows.spreadCutSpec.pre enc Tryz.prog Tryz.f8 [] false w args ∧ laidMetH Tryz.prog laidV w) ∧ sizedMet enc Tryz.prog Tryz.f8 (OpenSpec.ofChange Rows.spreadCutSpec) false w args)
      (Rows.spreadCutSpec.post enc Tryz.prog Tryz.f8 false true false false) := by
  refine returnsInHanded_of_change_and (C := Tryz.checked) (X := fun w _ => laidMetH Tryz.prog laidV w) (fun _ _ _ hh h => h.of_heap hh) own started (by kernel_rfl) Tryz.func8
    (ChangeSpec.witness_shaped (enc := enc) (C := Tryz.checked) (os := os) (X := fun w _ => laidMetH Tryz.prog laidV w) false (World.doorLaid Tryz.prog 400 os) #[.agg #[.int .i64 0, .int .i64 0, .int .i64 0, .int .i64 0, .int .i64 0, .slice none 0 0], .int .i64 0, .int .i64 0, .agg #[.int .i64 0, .int .i64 0, .int .i64 0, .int .i64 0, .int .i64 0, .slice none 0 0], .slice none 0 0, .bool false] 8 rfl (World.shaped_of_RefB (by kernel_rfl) (by kernel_rfl)) (by kernel_rfl) (by kernel_rfl) (by kernel_rfl) (door_met os _)) ?_
  intro W base args ds gs before hval0 hW _ _ hL _
  have hval : ∀ (j : Nat) t v, Tryz.f8.params[j]? = some t → args[j]? = some v → Value.okWide Tryz.prog W .any base t v := hval0
  have hW' := hW
  obtain ⟨p, q, hA0, hV, rfl, hfz, hnd⟩ := hW
  have hA : DataW.TrodAll enc Tryz.prog W 0 (fun _ => true) true Tryz.f8.params.toList args.toList ds p := hA0
  rw [Tryz.params8] at hA hval
  obtain ⟨v0, vs0, d0, ds0, p0, q0, hargs, rfl, rfl, h0, r0⟩ := trodAll_cons hA
  obtain ⟨v1, vs1, d1, ds1, p1, q1, rfl, rfl, rfl, h1, r1⟩ := trodAll_cons r0
  obtain ⟨v2, vs2, d2, ds2, p2, q2, rfl, rfl, rfl, h2, r2⟩ := trodAll_cons r1
  obtain ⟨v3, vs3, d3, ds3, p3, q3, rfl, rfl, rfl, h3, r3⟩ := trodAll_cons r2
  obtain ⟨v4, vs4, d4, ds4, p4, q4, rfl, rfl, rfl, h4, r4⟩ := trodAll_cons r3
  obtain ⟨v5, vs5, d5, ds5, p5, q5, rfl, rfl, rfl, h5, r5⟩ := trodAll_cons r4
  obtain ⟨rfl, rfl, rfl⟩ := trodAll_nil r5
  obtain rfl : args = #[v0, v1, v2, v3, v4, v5] := by cases args; simp_all
  obtain ⟨rfl, rfl⟩ := trodVars_none hV
  have k0 := h0
  have lt0 : ∀ x ∈ p0, x.block < W.heap.size := by obtain ⟨m, hm⟩ := k0; exact DataW.trod_lt m _ _ _ hm
  obtain ⟨c0, a0, cap0, rfl, w0, i0a, i0b, i0c, i0d, i0e⟩ := open_conf (hval 0 24 v0 rfl rfl) h0
  obtain ⟨a1, rfl, rfl, rfl, w1⟩ := open_int Tryz.underlying3 (hval 1 3 v1 rfl rfl) h1
  obtain ⟨a2, rfl, rfl, rfl, w2⟩ := open_int Tryz.underlying3 (hval 2 3 v2 rfl rfl) h2
  have k3 := h3
  have lt3 : ∀ x ∈ p3, x.block < W.heap.size := by obtain ⟨m, hm⟩ := k3; exact DataW.trod_lt m _ _ _ hm
  obtain ⟨c3, a3, cap3, rfl, w3, i3a, i3b, i3c, i3d, i3e⟩ := open_frame (hval 3 32 v3 rfl rfl) h3
  have k4 := h4
  have lt4 : ∀ x ∈ p4, x.block < W.heap.size := by obtain ⟨m, hm⟩ := k4; exact DataW.trod_lt m _ _ _ hm
  obtain ⟨a4, len4, cap4, rfl⟩ := okWide_slice Tryz.underlying22 (hval 4 22 v4 rfl rfl)
  obtain ⟨z4, e4, w4⟩ : ∃ zs : List Int, len4 = zs.length ∧ Row W a4 zs := by
    obtain ⟨fuel, hf⟩ := h4
    rcases open_ints Tryz.underlying22 Tryz.underlying3 (by kernel_rfl) hf with ⟨hcs, _⟩ | ⟨x, l, c, zs, hcs, _, hl, hm, hz, _, hcell, hwz⟩
    · simp [Value.cells] at hcs
      obtain ⟨rfl, rfl, rfl⟩ := hcs
      exact row_nil W
    · simp [Value.cells] at hcs
      obtain ⟨rfl, rfl, rfl⟩ := hcs
      exact row_of hl hm (by rw [hz]; split <;> omega) hcell hwz
  subst e4
  obtain ⟨a5, rfl, rfl, rfl⟩ := open_bool Tryz.underlying4 (hval 5 4 v5 rfl rfl) h5
  clear hA0 hval0
  refine (spreadCut_walk c0 a0 cap0 a1 a2 c3 a3 cap3 a4 z4 cap4 a5 W (of_laid hL) w0 i0a i0b i0c i0d i0e (wf_lo w1) (wf_hi w1) (wf_lo w2) (wf_hi w2) w3 i3a i3b i3c i3d i3e w4).mono fun e W' ⟨he, bel⟩ => ?_
  subst he
  exact ⟨_, rfl, _, _, _, [], _, [], hW', trodAll_mk1 (shut_bool Tryz.underlying4 _), (trodAll_cons_mk (Below.trod laidOut (by kernel_rfl) (of_decide_eq_true (by kernel_rfl)) k0 bel lt0) (trodAll_cons_mk (shut_int Tryz.underlying3 w1) (trodAll_cons_mk (shut_int Tryz.underlying3 w2) (trodAll_cons_mk (Below.trod laidOut (by kernel_rfl) (of_decide_eq_true (by kernel_rfl)) k3 bel lt3) (trodAll_cons_mk (Below.trod laidOut (by kernel_rfl) (of_decide_eq_true (by kernel_rfl)) k4 bel lt4) (trodAll_cons_mk (shut_bool Tryz.underlying4 _) trodAll_mk0)))))), rfl, bel.frame _, fun h => by cases h⟩

theorem spreadCut_over : Rows.spreadCutRow.holds Tryz.pinned (OpenSpec.ofChange Rows.spreadCutSpec) :=
  OpenClaim.holds_of_wide 8 Tryz.f8 rfl rfl rfl rfl rfl rfl rfl ⟨rfl, rfl, rfl, rfl, rfl⟩ rfl rfl rfl rfl rfl (by kernel_rfl) Tryz.func8 (by kernel_rfl)
    (of_decide_eq_true (by kernel_rfl)) (by unfold Func.isWrapper; first | (rw [if_pos (by decide +kernel)]; kernel_rfl) | (rw [if_neg (by decide +kernel)]; exact ⟨rfl, rfl⟩))
    (fun os started H enc _ => spreadCut_lifted os started H enc)

theorem spreadCut_holds : Rows.SpreadCutCardSaid :=
  Claim7.holds_tied_plain_at .later [] [.wider] true (true, "a5d9b23e4875e2a8724f766127c8c96d56c0320895d1daccf55c75c2fb92346b") false
    spreadCut_over (fun _ h => by cases h) (by kernel_rfl) (fun _ h => by cases h) spreadCut_row_tie rfl ⟨rfl, rfl⟩ (by kernel_rfl) rfl
    (fun f fn hf hfn => by
      obtain rfl : f = 8 := Option.some.inj ((show Tryz.prog.funcNamed Tryz.f8.name = some 8 by kernel_rfl).symm.trans hf) |>.symm
      obtain rfl : fn = Tryz.f8 := (Option.some.inj (Tryz.func8.symm.trans hfn)).symm
      exact ⟨by kernel_rfl, fun j t ht => by
        rw [Tryz.params8] at ht
        have hm : t ∈ [24, 3, 3, 32, 22, 4] := by
          have := Array.mem_of_getElem? ht
          simpa using this
        have hall : ([24, 3, 3, 32, 22, 4].all fun u => !Tryz.prog.wantsStandIn u) = true := by kernel_rfl
        exact (show Tryz.prog.wantsStandIn t = false by simpa using List.all_eq_true.1 hall t hm)⟩)
    (by kernel_rfl)
#print axioms spreadCut_holds
end Go.Proofs.YthhmedlefahccaaGreatDoor

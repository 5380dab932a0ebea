/-
  SpreadOff answers true for every input, and leaves its arguments as they were; the package's table of bounds is tied to the program's text. No condition.
-/
import Derived.Test.YthhmedlefahccaaGreatDoorK17
import Derived.Test.YthhmedlefahccaaGreatDoorK10
import Derived.Deep.Grids
import Derived.Test.YthhmedlefahccaaGreatDoorTie
import Derived.Test.YthhmedlefahccaaGreatDoorCards
/-
  SpreadOff's walk.
-/
namespace Go.Proofs.YthhmedlefahccaaGreatDoor
open Go.RowKit Plait
set_option maxRecDepth 100000
set_option linter.unusedVariables false
set_option linter.unusedSimpArgs false

/-- The loop that lays nodes off: k of them looked at. -/
def OffAt (w wl : World) (xb tb : Nat) (base N : Nat) (tc : Nat) (X : Cs) (A : Ca) (bs : List Bool) (i : Value) (W : World) : Prop :=
  ∃ k : Nat, k ≤ N ∧ i = .int .i64 k ∧ Below w.heap.size w W ∧ Two tb tb wl W ∧ OwnI base W (.slice (some ⟨tb, 0, none⟩) (stOff bs X.s N k).length tc) (stOff bs X.s N k)

theorem side_cells {W : World} {b : Nat} {t : TypeId} {M : Array Value} {n : Nat} {g : Nat → Sd} (hL : Blk W b t M) (hM : SdM M n g) (k : Nat) (hk : k < n) : W.cell? ⟨b, k * 4 + 2, none⟩ = some (.string ⟨(g k).O.toArray⟩) ∧ W.cell? ⟨b, k * 4 + 3, none⟩ = some (.int .i64 (g k).F) := ⟨(hL.at _).trans (hM.2 k hk).2.2.1, (hL.at _).trans (hM.2 k hk).2.2.2⟩

theorem wrap_step (D : Int) (hD : D = 1 ∨ D = -1) (k : Nat) (hk : k < 20) : IntKind.i64.wrap (D * ((k : Int) + 1)) = D * ((k : Int) + 1) ∧ IntKind.i64.wrap (-((k : Int) + 1)) = -((k : Int) + 1) ∧ IntKind.i64.wrap ((k : Int) + 1) = (k : Int) + 1 := by
  refine ⟨?_, wrap_in _ (by omega) (by omega), wrap_in _ (by omega) (by omega)⟩
  rcases hD with rfl | rfl
  · exact wrap_in _ (by omega) (by omega)
  · exact wrap_in _ (by omega) (by omega)
theorem at_step (N s D : Int) (hD : D = 1 ∨ D = -1) (h6 : 6 ≤ N) (h12 : N ≤ 12) (s0 : 0 ≤ s) (s1 : s < N) (k : Nat) (hk : k < 20) (e : Int) (he : e = D * ((k : Int) + 1)) (w : World) :
    Calls Tryz.prog 26 #[.int .i64 N, .int .i64 s, .int .i64 e] w fun r w' => r = .returned (.int .i64 ((s + D * ((k : Int) + 1)) % N)) ∧ w = w' := by
  subst he
  rcases hD with rfl | rfl
  · exact rAt_any N s _ w (by omega) (by omega) (by omega) (by omega) (by omega) (by omega)
  · exact rAt_any N s _ w (by omega) (by omega) (by omega) (by omega) (by omega) (by omega)
theorem mod_in (N z : Int) (h : 6 ≤ N) : 0 ≤ z % N ∧ z % N < N := ⟨Int.emod_nonneg _ (by omega), Int.emod_lt_of_pos _ (by omega)⟩


set_option maxHeartbeats 6400000 in
theorem spreadOff_walk (c : Cf) (a : Option Addr) (cap : Nat) (y9 : Int) (oa : Option Addr) (bs : List Bool) (oc : Nat) (y : Fr) (ya : Option Addr) (yc : Nat) (na : Option Addr) (ns : List Int) (nc : Nat) (up : Bool) (w : World) (hbd : Bnds w) (hrow : Row w a c.P) (iN : inI c.N) (iP : inI c.Pi) (iE : inI c.E) (iG : inI c.G) (iF : inI c.F)
    (y1 : -9223372036854775808 ≤ y9) (y2 : y9 ≤ 9223372036854775807) (hbs : RowBl w oa bs) (hyE : RowT w ya y.E) (iK : inI y.K) (iR : inI y.R) (iS : inI y.S) (iQ : inI y.P.K) (iV : inI y.P.V) (hns : Row w na ns) :
    Calls Tryz.prog 10 #[.agg #[.int .i64 c.N, .int .i64 c.Pi, .int .i64 c.E, .int .i64 c.G, .int .i64 c.F, .slice a c.P.length cap], .int .i64 y9, .slice oa bs.length oc, .agg #[.int .i64 y.K, .int .i64 y.R, .int .i64 y.S, .int .i64 y.P.K, .int .i64 y.P.V, .slice ya y.E.length yc], .slice na ns.length nc, .bool up] w fun e w' => e = .returned (.bool true) ∧ Below w.heap.size w w' := by
  cases up
  case false =>
    have hB : Below w.heap.size w ((w.alloc (.cells #[.int .i64 c.N, .int .i64 c.Pi, .int .i64 c.E, .int .i64 c.G, .int .i64 c.F, .slice a c.P.length cap] 24)).alloc (.cells #[.int .i64 y.K, .int .i64 y.R, .int .i64 y.S, .int .i64 y.P.K, .int .i64 y.P.V, .slice ya y.E.length yc] 32)) := (alloc_below w _).alloc (by simp) _
    have hC : Blk ((w.alloc (.cells #[.int .i64 c.N, .int .i64 c.Pi, .int .i64 c.E, .int .i64 c.G, .int .i64 c.F, .slice a c.P.length cap] 24)).alloc (.cells #[.int .i64 y.K, .int .i64 y.R, .int .i64 y.S, .int .i64 y.P.K, .int .i64 y.P.V, .slice ya y.E.length yc] 32)) w.heap.size 24 (confBox c a cap) := (Blk.new w _ _).alloc _
    have hY : Blk ((w.alloc (.cells #[.int .i64 c.N, .int .i64 c.Pi, .int .i64 c.E, .int .i64 c.G, .int .i64 c.F, .slice a c.P.length cap] 24)).alloc (.cells #[.int .i64 y.K, .int .i64 y.R, .int .i64 y.S, .int .i64 y.P.K, .int .i64 y.P.V, .slice ya y.E.length yc] 32)) (w.heap.size + 1) 32 (frBox y ya yc) := Blk.newAt _ _ (by simp)
    have HCM := Lib.hid (fun W h1 h4 => ccalm_any c a cap ⟨0, 0, 0, 0, [], []⟩ none 0 none 0 y9 y ya yc na ns nc (-1) W h1 (RowA.empty _ _) (Row.empty _ _) h4 ⟨y1, y2⟩ iK iR iV)
    obtain ⟨hx0, hf0⟩ := calmC_x c ⟨0, 0, 0, 0, [], []⟩ y9 y ns (-1)
    generalize calmC c ⟨0, 0, 0, 0, [], []⟩ y9 y ns (-1) = X at *
    have HF0 := Lib.hid hf0
    clear hf0
    go_enter Tryz.func10, Tryz.ntmps10
    go_upto_region 1 with fail
    generalize ((w.alloc (.cells #[.int .i64 c.N, .int .i64 c.Pi, .int .i64 c.E, .int .i64 c.G, .int .i64 c.F, .slice a c.P.length cap] 24)).alloc (.cells #[.int .i64 y.K, .int .i64 y.R, .int .i64 y.S, .int .i64 y.P.K, .int .i64 y.P.V, .slice ya y.E.length yc] 32)) = w1 at *
    go_wp2_with fail
    refine (known9_any _ (hbd.later hB)).mono ?_
    rintro e w2 ⟨rfl, hb⟩
    replace hB := hB.trans (hb.mono hB.size)
    replace hC := hC.later hb
    replace hY := hY.later hb
    clear hb
    have hww : w.heap.size ≤ w2.heap.size := hB.size
    have hqc := hC.at
    unfold confBox at hqc
    have hqy := hY.at
    unfold frBox at hqy
    go_wp2_with fail
    refine (HCM.out _ (hrow.later hB) (hns.later hB)).mono ?_
    rintro e w3 ⟨A, base, rfl, hM, hwb, ho1, ho2, hap, hpP, hpA, hpD, hpS, hb⟩
    replace hB := hB.trans (hb.mono hB.size)
    clear hb hqc hqy hC hY HCM
    simp only []
    refine at_K (by assumption) ?_
    refine wpList_case 14 30 (#[.int .i64 X.c.N, .int .i64 X.c.Pi, .int .i64 X.c.E, .int .i64 X.c.G, .int .i64 X.c.F, .slice A.ca X.c.P.length A.cc, .int .i64 X.f.K, .int .i64 X.f.At, .int .i64 X.f.F, .int .i64 X.f.To, .slice A.fa X.f.A.length A.fac, .slice A.fd X.f.D.length A.fdc, .int .i64 X.r, .int .i64 X.s, .int .i64 X.d, .slice A.sa X.sends.length A.sc, .slice A.ta X.st.length A.tc, .slice A.va X.dv.length A.vc]) rfl rfl rfl rfl rfl rfl rfl rfl (by simp [Value.oneCell']) (by simp) (by decide) ?_
    have hXb := Blk.new w3 37 (#[.int .i64 X.c.N, .int .i64 X.c.Pi, .int .i64 X.c.E, .int .i64 X.c.G, .int .i64 X.c.F, .slice A.ca X.c.P.length A.cc, .int .i64 X.f.K, .int .i64 X.f.At, .int .i64 X.f.F, .int .i64 X.f.To, .slice A.fa X.f.A.length A.fac, .slice A.fd X.f.D.length A.fdc, .int .i64 X.r, .int .i64 X.s, .int .i64 X.d, .slice A.sa X.sends.length A.sc, .slice A.ta X.st.length A.tc, .slice A.va X.dv.length A.vc])
    have hb3 := alloc_below w3 (.cells (#[.int .i64 X.c.N, .int .i64 X.c.Pi, .int .i64 X.c.E, .int .i64 X.c.G, .int .i64 X.c.F, .slice A.ca X.c.P.length A.cc, .int .i64 X.f.K, .int .i64 X.f.At, .int .i64 X.f.F, .int .i64 X.f.To, .slice A.fa X.f.A.length A.fac, .slice A.fd X.f.D.length A.fdc, .int .i64 X.r, .int .i64 X.s, .int .i64 X.d, .slice A.sa X.sends.length A.sc, .slice A.ta X.st.length A.tc, .slice A.va X.dv.length A.vc]) 37)
    generalize w3.alloc (.cells (#[.int .i64 X.c.N, .int .i64 X.c.Pi, .int .i64 X.c.E, .int .i64 X.c.G, .int .i64 X.c.F, .slice A.ca X.c.P.length A.cc, .int .i64 X.f.K, .int .i64 X.f.At, .int .i64 X.f.F, .int .i64 X.f.To, .slice A.fa X.f.A.length A.fac, .slice A.fd X.f.D.length A.fdc, .int .i64 X.r, .int .i64 X.s, .int .i64 X.d, .slice A.sa X.sends.length A.sc, .slice A.ta X.st.length A.tc, .slice A.va X.dv.length A.vc]) 37) = w4 at *
    have n6 := hx0.c.n6
    have n12 := hx0.c.n12
    have hBw := hB.size
    obtain ⟨N, hN⟩ : ∃ N : Nat, X.c.N = N := ⟨X.c.N.toNat, by omega⟩
    have hst := hx0.st
    rw [show X.c.N.toNat = N by omega] at hst
    have N12 : N ≤ 12 := by omega
    have N6 : 6 ≤ N := by omega
    obtain ⟨tb, hta, htb0, htb1, -, -⟩ := ho1.at (by rw [hst, List.length_replicate]; omega)
    have HTA := Lib.hid hta
    have hbl := hbs.later (hB.trans (hb3.mono hB.size))
    have ho3 : OwnI base w4 (.slice (some ⟨tb, 0, none⟩) (stOff bs X.s N 0).length A.tc) (stOff bs X.s N 0) := by
      have := ho1.later hb3
      rw [hta, hst] at this
      rw [stOff_zero]
      exact this
    have hrel0 : OffAt w w4 w3.heap.size tb base N A.tc X A bs (.int .i64 (0 : Nat)) w4 := ⟨0, Nat.zero_le _, rfl, hB.trans (hb3.mono hB.size), ⟨Nat.le_refl _, fun _ _ _ _ => rfl⟩, ho3⟩
    have hstl : X.st.length = N := by rw [hst, List.length_replicate]
    have HNN := Lib.hid hN
    have HST := Lib.hid hst
    have HSTL := Lib.hid hstl
    have hxt : w3.heap.size ≠ tb := by omega
    have hxl : w3.heap.size < w4.heap.size := hXb.lt
    have htl : tb < w4.heap.size := by omega
    clear hN hst hta ho3 hstl
    have hqx := hXb.at
    rw [HTA.out] at hqx
    have HXQ := Lib.hid hqx
    clear hqx
    go_upto_region 8 with fail
    go_wp2
    go_loopw [15] (fun i W => OffAt w w4 w3.heap.size tb base N A.tc X A bs i W) (fun i _ => N - (intOf i).toNat)
    case atStart => exact hrel0
    case round =>
      clear hrel0
      obtain ⟨k, hk, rfl, hBW, hTW, hoW⟩ := hrel
      have hXW := hXb.two hxt hxt hTW
      have hq := hXW.at
      rw [HTA.out] at hq
      by_cases hlt : k < N
      · have d1 : decide ((k : Int) < X.c.N) = true := by have := HNN.out; simp; omega
        by_cases hl2 : k < bs.length
        · have d2 : decide ((k : Int) < (bs.length : Int)) = true := by simp; omega
          have d2' : decide (k < bs.length) = true := by simpa using hl2
          have g0 : (0 : Int) ≤ (k : Int) := by omega
          have g1 : (k : Int) < (bs.length : Int) := by omega
          have g2 : (k : Int) < (X.st.length : Int) := by have := HSTL.out; omega
          obtain ⟨ob, off, rfl, hob, hcell⟩ := (hbs.later hBW).get k hl2
          have hbd' : bs.getD k false = bs[k] := by rw [List.getD_eq_getElem?_getD, List.getElem?_eq_getElem hl2]; rfl
          obtain ⟨g7, hg7, -, -, hcs, hfs⟩ := hoW.at (by rw [stOff_len]; omega)
          have hg8 : g7 = tb := by injection hg7 with e; injection e with e; exact e.symm
          rw [hg8] at hcs hfs
          clear hg7 hg8 g7
          have hc5 := hcs k (by rw [stOff_len]; exact hlt)
          have hf5 := hfs k
          have HOW := Lib.hid hoW
          clear hcs hfs hoW
          generalize (stOff bs X.s N k)[k]'(by rw [stOff_len]; exact hlt) = z5 at *
          cases hbk : bs[k]
          · rw [hbk] at hcell hbd'
            have HRL := Lib.hid (show OffAt w w4 w3.heap.size tb base N A.tc X A bs (.int .i64 ((k : Int) + 1)) wr from ⟨k + 1, by omega, rfl, hBW, hTW, by rw [stOff_no bs X.s N k (.inl hbd')]; exact HOW.out⟩)
            clear hbk hbd' hc5 hf5
            go_wp2
            go_roundw
            case rel => exact HRL.out
            case measure => simp [intOf]; omega
          · rw [hbk] at hcell hbd'
            by_cases hks : (k : Int) = X.s
            · have d3 : ((k : Int) != X.s) = false := by rw [hks]; simp
              have HRL := Lib.hid (show OffAt w w4 w3.heap.size tb base N A.tc X A bs (.int .i64 ((k : Int) + 1)) wr from ⟨k + 1, by omega, rfl, hBW, hTW, by rw [stOff_no bs X.s N k (.inr hks)]; exact HOW.out⟩)
              clear hbk hbd' hc5 hf5 hks
              go_wp2
              go_roundw
              case rel => exact HRL.out
              case measure => simp [intOf]; omega
            · have d3 : ((k : Int) != X.s) = true := by simpa using hks
              have HRL := Lib.hid (show OffAt w w4 w3.heap.size tb base N A.tc X A bs (.int .i64 ((k : Int) + 1)) (wr.setCell ⟨tb, k, none⟩ (.int .i64 0)) from ⟨k + 1, by omega, rfl, hBW.setCell (p := ⟨tb, k, none⟩) (by show w.heap.size ≤ tb; omega) _, hTW.trans (setCell_off tb k _ wr tb tb (.inl rfl)), by
                rw [stOff_yes bs X.s N k hlt hbd' hks]
                exact HOW.out.put k (by rw [stOff_len]; exact hlt) 0⟩)
              clear hbk hbd' hks
              go_wp2
              go_roundw
              case rel => exact HRL.out
              case measure => simp [intOf]; omega
        · have d2 : decide ((k : Int) < (bs.length : Int)) = false := by simp; omega
          have d2' : decide (k < bs.length) = false := by simpa using hl2
          go_upto_region 12 with fail
          clear hq
          obtain ⟨L, hLs⟩ : ∃ L, L = stOff bs X.s N k := ⟨_, rfl⟩
          have hLl : L.length = N := by rw [hLs, stOff_len]
          have hL4 : ∀ z ∈ L, z = 0 ∨ z = 4 := by rw [hLs]; exact stOff_04 bs X.s N k
          rw [← hLs] at hoW
          obtain ⟨Y, hY⟩ : ∃ Y : Cs, Y = { X with st := L, dv := X.dv } := ⟨_, rfl⟩
          have hYb : Blk wr w3.heap.size 37 (#[.int .i64 Y.c.N, .int .i64 Y.c.Pi, .int .i64 Y.c.E, .int .i64 Y.c.G, .int .i64 Y.c.F, .slice A.ca Y.c.P.length A.cc, .int .i64 Y.f.K, .int .i64 Y.f.At, .int .i64 Y.f.F, .int .i64 Y.f.To, .slice A.fa Y.f.A.length A.fac, .slice A.fd Y.f.D.length A.fdc, .int .i64 Y.r, .int .i64 Y.s, .int .i64 Y.d, .slice A.sa Y.sends.length A.sc, .slice A.ta Y.st.length A.tc, .slice A.va Y.dv.length A.vc]) := by
            subst hY
            show Blk wr w3.heap.size _ #[.int .i64 X.c.N, .int .i64 X.c.Pi, .int .i64 X.c.E, .int .i64 X.c.G, .int .i64 X.c.F, .slice A.ca X.c.P.length A.cc, .int .i64 X.f.K, .int .i64 X.f.At, .int .i64 X.f.F, .int .i64 X.f.To, .slice A.fa X.f.A.length A.fac, .slice A.fd X.f.D.length A.fdc, .int .i64 X.r, .int .i64 X.s, .int .i64 X.d, .slice A.sa X.sends.length A.sc, .slice A.ta L.length A.tc, .slice A.va X.dv.length A.vc]
            rw [hLl, ← HSTL.out]
            exact hXW
          have okX : X.Ok := hx0.ok (by first | exact .inl rfl | exact .inr rfl) (by rw [HF0.out]; show (0 : Nat) ≤ _; omega) (by rw [HF0.out]; intro q hq; cases hq)
          have okY : Y.Ok := by rw [hY]; exact okX.withRows L X.dv (by rw [hLl, HSTL.out]) rfl
          have hM4 := hM.later hb3
          have hMY : CsM Y A wr := by
            subst hY
            refine ⟨hM4.P.twoLt (hpP.imp id fun q p e => by have := q p e; omega) hTW, hM4.A.two (hpA.imp id fun q p e => by have := q p e; omega) hTW, hM4.D.twoLt (hpD.imp id fun q p e => by have := q p e; omega) hTW, hM4.S.two (hpS.imp id fun q p e => by have := q p e; omega) hTW, ?_, hM4.V.twoLt (.inr fun p e => by have := hap _ p HTA.out e; exact ⟨fun q => this q.symm, fun q => this q.symm⟩) hTW⟩
            show Row wr A.ta L
            rw [HTA.out]
            exact hoW.row (by omega) (fun z hz => by rcases hL4 z hz with rfl | rfl <;> omega)
          have s1Y : Y.s < Y.c.N := by rw [hY]; exact hx0.s1
          have hfacts := off_facts okY s1Y (by rw [hY]; show X.f.K = 0; rw [HF0.out]) (by rw [hY]; show X.f.A = []; rw [HF0.out]) (by rw [hY]; exact hx0.dv) (by rw [hY]; exact hL4)
          have hsY : Y.s = X.s := by rw [hY]
          have hdY : Y.d = -1 := by rw [hY]; exact hx0.d
          have hNY : Y.c.N = N := by rw [hY]; exact HNN.out
          have hstY : Y.st = L := by rw [hY]
          have hsl : Y.sends.length = 1 := by rw [hY]; exact hx0.sl
          have HR := Lib.hid (show Calls Tryz.prog 19 #[.agg #[.int .i64 Y.c.N, .int .i64 Y.c.Pi, .int .i64 Y.c.E, .int .i64 Y.c.G, .int .i64 Y.c.F, .slice A.ca Y.c.P.length A.cc, .int .i64 Y.f.K, .int .i64 Y.f.At, .int .i64 Y.f.F, .int .i64 Y.f.To, .slice A.fa Y.f.A.length A.fac, .slice A.fd Y.f.D.length A.fdc, .int .i64 Y.r, .int .i64 Y.s, .int .i64 Y.d, .slice A.sa Y.sends.length A.sc, .slice A.ta Y.st.length A.tc, .slice A.va Y.dv.length A.vc]] wr (SideRet 53 N Y.end wr) by
            have := crun_any Y A wr (hbd.later hBW) okY hMY
            rw [show Y.c.N.toNat = N by omega] at this
            exact this)
          have hRS := hMY.S
          have hRT := hMY.T
          rw [hstY] at hRT
          clear hXW hoW hM4 okX hM hTW hLs hbs hbl
          rw [hdY] at hfacts
          have s0Y : 0 ≤ Y.s := okY.s0
          have HSY := Lib.hid hsY
          have HNY := Lib.hid hNY
          have HSTY := Lib.hid hstY
          have HSL := Lib.hid hsl
          have HLL := Lib.hid hLl
          have HFC := Lib.hid hfacts
          have HY := Lib.hid hY
          clear okY hMY hsY hNY hstY hsl hdY hLl hfacts hY
          refine wp_region_list ?_
          refine wpList_load_row rfl 37 (.tmp 14) rfl w3.heap.size rfl 37 _ (0, 0) _ hYb Tryz.underlying37 rfl (by kernel_rfl) ?_
          go_wp2_with fail
          refine (HR.out).mono ?_
          rintro e w6 ⟨lb, M, rfl, hlo, hL, hSM, hb⟩
          have hB6 := hBW.trans (hb.mono hBW.size)
          have hY6 := hYb.later hb
          replace hRS := hRS.later hb
          replace hRT := hRT.later hb
          generalize Y.end = G at *
          generalize Y.sp.o = O at *
          clear hb hYb HR hBW
          have g1 : (0 : Int) < (Y.sends.length : Int) := by rw [HSL.out]; decide
          obtain ⟨S, hS⟩ : ∃ S, Y.sends = [S] := List.length_eq_one_iff.1 HSL.out
          rw [hS] at hRS
          obtain ⟨sb, so, hsa, -, hcell⟩ := hRS.get 0 (by simp)
          have hcell2 : w6.cell? ⟨sb, so, none⟩ = some (.string ⟨S.toArray⟩) := by simpa using hcell
          have HSD := Lib.hid (show O 0 = S by rw [HFC.out.1, hS]; rfl)
          have dN : ((N : Int) != Y.c.N) = false := by rw [HNY.out]; simp
          have hq := hY6.at
          rw [hsa, HTA.out] at hq
          have HRT := Lib.hid hRT
          clear hcell hRS hS hsa hRT
          go_wp2
          go_loopw [17, 18] (fun u i W => ∃ k : Nat, k + 1 ≤ N ∧ i = .int .i64 ((k : Int) + 1) ∧ u = .string ⟨(O k).toArray⟩ ∧ W = w6) (fun _ i _ => N - (intOf i).toNat)
          case atStart => exact ⟨0, by omega, rfl, by rw [HSD.out], rfl⟩
          case round =>
            obtain ⟨k2, hk2, rfl, rfl, rfl⟩ := hrel
            by_cases hlt2 : k2 + 1 < N
            · have d5 : decide ((k2 : Int) + 1 < Y.c.N) = true := by have := HNY.out; simp; omega
              have y6 : 6 ≤ Y.c.N := by rw [HNY.out]; omega
              have y12 : Y.c.N ≤ 12 := by rw [HNY.out]; omega
              have k20 : k2 < 20 := by omega
              have HA := Lib.hid (at_step Y.c.N Y.s (-1) (by first | exact .inl rfl | exact .inr rfl) y6 y12 s0Y s1Y k2 k20)
              have HOK := Lib.hid (HFC.out.2.2 k2)
              have HGK := Lib.hid (show (G ((Y.s + (-1) * ((k2 : Int) + 1)) % Y.c.N).toNat).O = O (k2 + 1) ∧ (G ((Y.s + (-1) * ((k2 : Int) + 1)) % Y.c.N).toNat).F = (k2 : Int) + 1 by
                have := HFC.out.2.1 (k2 + 1) (by rw [HNY.out]; omega)
                rw [show ((k2 + 1 : Nat) : Int) = (k2 : Int) + 1 from Int.natCast_succ k2] at this
                exact this)
              obtain ⟨j0, j1⟩ := mod_in Y.c.N (Y.s + (-1) * ((k2 : Int) + 1)) y6
              rw [HSTY.out] at HOK
              obtain ⟨z1, z2, z3⟩ := wrap_step (-1) (by first | exact .inl rfl | exact .inr rfl) k2 k20
              go_wp2_with fail
              refine (HA.out _ (by first | rfl | (clear z1 z2 z3; omega)) _).mono ?_
              clear z1 z2 z3
              rintro e wl ⟨rfl, rfl⟩
              generalize (Y.s + (-1) * ((k2 : Int) + 1)) % Y.c.N = j at *
              obtain ⟨jn, hjn⟩ : ∃ jn : Nat, j = jn := ⟨j.toNat, by omega⟩
              subst hjn
              rw [Int.toNat_natCast] at HOK HGK
              have hjN : jn < N := by have := HNY.out; omega
              have hrt := HRT.out
              rw [HTA.out] at hrt
              have hjL : jn < L.length := by rw [HLL.out]; exact hjN
              obtain ⟨b7, o7, e7, -, hc7, -, -⟩ := hrt.get jn hjL
              obtain ⟨rfl, rfl⟩ : tb = b7 ∧ 0 = o7 := by injection e7 with e7; injection e7 with q1 q2; exact ⟨q1, q2⟩
              have hc8 : wr.cell? ⟨tb, jn, none⟩ = some (.int .i64 L[jn]) := by simpa using hc7
              have hLg : L.getD jn 0 = L[jn] := by rw [List.getD_eq_getElem?_getD, List.getElem?_eq_getElem hjL]; rfl
              rw [hLg] at HOK
              generalize L[jn] = z7 at *
              have g3 : (0 : Int) ≤ (jn : Int) := by omega
              have g4 : (jn : Int) < (N : Int) := by omega
              have g5 : (jn : Int) < (Y.st.length : Int) := by rw [HSTY.out, HLL.out]; exact g4
              obtain ⟨cO, cF⟩ := side_cells hL hSM jn hjN
              rw [HGK.out.1] at cO
              rw [HGK.out.2] at cF
              clear hrt hc7 e7 hLg
              by_cases hz : z7 = 0
              · have d6 : (z7 == 0) = true := by simp [hz]
                rw [HOK.out, if_pos hz] at cO
                have HNEXT := Lib.hid (show O (k2 + 1) = [] by rw [HOK.out, if_pos hz])
                clear hz
                go_wp2
                go_roundw
                case rel => exact ⟨k2 + 1, by omega, by go_num, by rw [HNEXT.out], by trivial⟩
                case measure => simp [intOf]; omega
              · have d6 : (z7 == 0) = false := by simpa using hz
                rw [HOK.out, if_neg hz] at cO
                have HNEXT := Lib.hid (show O (k2 + 1) = O k2 by rw [HOK.out, if_neg hz])
                have dS : (O k2 == O k2) = true := by simp
                clear hz
                go_wp2
                go_roundw
                case rel => exact ⟨k2 + 1, by omega, by go_num, by rw [HNEXT.out], by trivial⟩
                case measure => simp [intOf]; omega
            · have d5 : decide ((k2 : Int) + 1 < Y.c.N) = false := by rw [HNY.out]; simp; omega
              go_wp2
              go_ret
              exact ⟨rfl, hB6⟩
      · have d1 : decide ((k : Int) < X.c.N) = false := by have := HNN.out; simp; omega
        go_upto_region 12 with fail
        clear hq
        obtain ⟨L, hLs⟩ : ∃ L, L = stOff bs X.s N k := ⟨_, rfl⟩
        have hLl : L.length = N := by rw [hLs, stOff_len]
        have hL4 : ∀ z ∈ L, z = 0 ∨ z = 4 := by rw [hLs]; exact stOff_04 bs X.s N k
        rw [← hLs] at hoW
        obtain ⟨Y, hY⟩ : ∃ Y : Cs, Y = { X with st := L, dv := X.dv } := ⟨_, rfl⟩
        have hYb : Blk wr w3.heap.size 37 (#[.int .i64 Y.c.N, .int .i64 Y.c.Pi, .int .i64 Y.c.E, .int .i64 Y.c.G, .int .i64 Y.c.F, .slice A.ca Y.c.P.length A.cc, .int .i64 Y.f.K, .int .i64 Y.f.At, .int .i64 Y.f.F, .int .i64 Y.f.To, .slice A.fa Y.f.A.length A.fac, .slice A.fd Y.f.D.length A.fdc, .int .i64 Y.r, .int .i64 Y.s, .int .i64 Y.d, .slice A.sa Y.sends.length A.sc, .slice A.ta Y.st.length A.tc, .slice A.va Y.dv.length A.vc]) := by
          subst hY
          show Blk wr w3.heap.size _ #[.int .i64 X.c.N, .int .i64 X.c.Pi, .int .i64 X.c.E, .int .i64 X.c.G, .int .i64 X.c.F, .slice A.ca X.c.P.length A.cc, .int .i64 X.f.K, .int .i64 X.f.At, .int .i64 X.f.F, .int .i64 X.f.To, .slice A.fa X.f.A.length A.fac, .slice A.fd X.f.D.length A.fdc, .int .i64 X.r, .int .i64 X.s, .int .i64 X.d, .slice A.sa X.sends.length A.sc, .slice A.ta L.length A.tc, .slice A.va X.dv.length A.vc]
          rw [hLl, ← HSTL.out]
          exact hXW
        have okX : X.Ok := hx0.ok (by first | exact .inl rfl | exact .inr rfl) (by rw [HF0.out]; show (0 : Nat) ≤ _; omega) (by rw [HF0.out]; intro q hq; cases hq)
        have okY : Y.Ok := by rw [hY]; exact okX.withRows L X.dv (by rw [hLl, HSTL.out]) rfl
        have hM4 := hM.later hb3
        have hMY : CsM Y A wr := by
          subst hY
          refine ⟨hM4.P.twoLt (hpP.imp id fun q p e => by have := q p e; omega) hTW, hM4.A.two (hpA.imp id fun q p e => by have := q p e; omega) hTW, hM4.D.twoLt (hpD.imp id fun q p e => by have := q p e; omega) hTW, hM4.S.two (hpS.imp id fun q p e => by have := q p e; omega) hTW, ?_, hM4.V.twoLt (.inr fun p e => by have := hap _ p HTA.out e; exact ⟨fun q => this q.symm, fun q => this q.symm⟩) hTW⟩
          show Row wr A.ta L
          rw [HTA.out]
          exact hoW.row (by omega) (fun z hz => by rcases hL4 z hz with rfl | rfl <;> omega)
        have s1Y : Y.s < Y.c.N := by rw [hY]; exact hx0.s1
        have hfacts := off_facts okY s1Y (by rw [hY]; show X.f.K = 0; rw [HF0.out]) (by rw [hY]; show X.f.A = []; rw [HF0.out]) (by rw [hY]; exact hx0.dv) (by rw [hY]; exact hL4)
        have hsY : Y.s = X.s := by rw [hY]
        have hdY : Y.d = -1 := by rw [hY]; exact hx0.d
        have hNY : Y.c.N = N := by rw [hY]; exact HNN.out
        have hstY : Y.st = L := by rw [hY]
        have hsl : Y.sends.length = 1 := by rw [hY]; exact hx0.sl
        have HR := Lib.hid (show Calls Tryz.prog 19 #[.agg #[.int .i64 Y.c.N, .int .i64 Y.c.Pi, .int .i64 Y.c.E, .int .i64 Y.c.G, .int .i64 Y.c.F, .slice A.ca Y.c.P.length A.cc, .int .i64 Y.f.K, .int .i64 Y.f.At, .int .i64 Y.f.F, .int .i64 Y.f.To, .slice A.fa Y.f.A.length A.fac, .slice A.fd Y.f.D.length A.fdc, .int .i64 Y.r, .int .i64 Y.s, .int .i64 Y.d, .slice A.sa Y.sends.length A.sc, .slice A.ta Y.st.length A.tc, .slice A.va Y.dv.length A.vc]] wr (SideRet 53 N Y.end wr) by
          have := crun_any Y A wr (hbd.later hBW) okY hMY
          rw [show Y.c.N.toNat = N by omega] at this
          exact this)
        have hRS := hMY.S
        have hRT := hMY.T
        rw [hstY] at hRT
        clear hXW hoW hM4 okX hM hTW hLs hbs hbl
        rw [hdY] at hfacts
        have s0Y : 0 ≤ Y.s := okY.s0
        have HSY := Lib.hid hsY
        have HNY := Lib.hid hNY
        have HSTY := Lib.hid hstY
        have HSL := Lib.hid hsl
        have HLL := Lib.hid hLl
        have HFC := Lib.hid hfacts
        have HY := Lib.hid hY
        clear okY hMY hsY hNY hstY hsl hdY hLl hfacts hY
        refine wp_region_list ?_
        refine wpList_load_row rfl 37 (.tmp 14) rfl w3.heap.size rfl 37 _ (0, 0) _ hYb Tryz.underlying37 rfl (by kernel_rfl) ?_
        go_wp2_with fail
        refine (HR.out).mono ?_
        rintro e w6 ⟨lb, M, rfl, hlo, hL, hSM, hb⟩
        have hB6 := hBW.trans (hb.mono hBW.size)
        have hY6 := hYb.later hb
        replace hRS := hRS.later hb
        replace hRT := hRT.later hb
        generalize Y.end = G at *
        generalize Y.sp.o = O at *
        clear hb hYb HR hBW
        have g1 : (0 : Int) < (Y.sends.length : Int) := by rw [HSL.out]; decide
        obtain ⟨S, hS⟩ : ∃ S, Y.sends = [S] := List.length_eq_one_iff.1 HSL.out
        rw [hS] at hRS
        obtain ⟨sb, so, hsa, -, hcell⟩ := hRS.get 0 (by simp)
        have hcell2 : w6.cell? ⟨sb, so, none⟩ = some (.string ⟨S.toArray⟩) := by simpa using hcell
        have HSD := Lib.hid (show O 0 = S by rw [HFC.out.1, hS]; rfl)
        have dN : ((N : Int) != Y.c.N) = false := by rw [HNY.out]; simp
        have hq := hY6.at
        rw [hsa, HTA.out] at hq
        have HRT := Lib.hid hRT
        clear hcell hRS hS hsa hRT
        go_wp2
        go_loopw [17, 18] (fun u i W => ∃ k : Nat, k + 1 ≤ N ∧ i = .int .i64 ((k : Int) + 1) ∧ u = .string ⟨(O k).toArray⟩ ∧ W = w6) (fun _ i _ => N - (intOf i).toNat)
        case atStart => exact ⟨0, by omega, rfl, by rw [HSD.out], rfl⟩
        case round =>
          obtain ⟨k2, hk2, rfl, rfl, rfl⟩ := hrel
          by_cases hlt2 : k2 + 1 < N
          · have d5 : decide ((k2 : Int) + 1 < Y.c.N) = true := by have := HNY.out; simp; omega
            have y6 : 6 ≤ Y.c.N := by rw [HNY.out]; omega
            have y12 : Y.c.N ≤ 12 := by rw [HNY.out]; omega
            have k20 : k2 < 20 := by omega
            have HA := Lib.hid (at_step Y.c.N Y.s (-1) (by first | exact .inl rfl | exact .inr rfl) y6 y12 s0Y s1Y k2 k20)
            have HOK := Lib.hid (HFC.out.2.2 k2)
            have HGK := Lib.hid (show (G ((Y.s + (-1) * ((k2 : Int) + 1)) % Y.c.N).toNat).O = O (k2 + 1) ∧ (G ((Y.s + (-1) * ((k2 : Int) + 1)) % Y.c.N).toNat).F = (k2 : Int) + 1 by
              have := HFC.out.2.1 (k2 + 1) (by rw [HNY.out]; omega)
              rw [show ((k2 + 1 : Nat) : Int) = (k2 : Int) + 1 from Int.natCast_succ k2] at this
              exact this)
            obtain ⟨j0, j1⟩ := mod_in Y.c.N (Y.s + (-1) * ((k2 : Int) + 1)) y6
            rw [HSTY.out] at HOK
            obtain ⟨z1, z2, z3⟩ := wrap_step (-1) (by first | exact .inl rfl | exact .inr rfl) k2 k20
            go_wp2_with fail
            refine (HA.out _ (by first | rfl | (clear z1 z2 z3; omega)) _).mono ?_
            clear z1 z2 z3
            rintro e wl ⟨rfl, rfl⟩
            generalize (Y.s + (-1) * ((k2 : Int) + 1)) % Y.c.N = j at *
            obtain ⟨jn, hjn⟩ : ∃ jn : Nat, j = jn := ⟨j.toNat, by omega⟩
            subst hjn
            rw [Int.toNat_natCast] at HOK HGK
            have hjN : jn < N := by have := HNY.out; omega
            have hrt := HRT.out
            rw [HTA.out] at hrt
            have hjL : jn < L.length := by rw [HLL.out]; exact hjN
            obtain ⟨b7, o7, e7, -, hc7, -, -⟩ := hrt.get jn hjL
            obtain ⟨rfl, rfl⟩ : tb = b7 ∧ 0 = o7 := by injection e7 with e7; injection e7 with q1 q2; exact ⟨q1, q2⟩
            have hc8 : wr.cell? ⟨tb, jn, none⟩ = some (.int .i64 L[jn]) := by simpa using hc7
            have hLg : L.getD jn 0 = L[jn] := by rw [List.getD_eq_getElem?_getD, List.getElem?_eq_getElem hjL]; rfl
            rw [hLg] at HOK
            generalize L[jn] = z7 at *
            have g3 : (0 : Int) ≤ (jn : Int) := by omega
            have g4 : (jn : Int) < (N : Int) := by omega
            have g5 : (jn : Int) < (Y.st.length : Int) := by rw [HSTY.out, HLL.out]; exact g4
            obtain ⟨cO, cF⟩ := side_cells hL hSM jn hjN
            rw [HGK.out.1] at cO
            rw [HGK.out.2] at cF
            clear hrt hc7 e7 hLg
            by_cases hz : z7 = 0
            · have d6 : (z7 == 0) = true := by simp [hz]
              rw [HOK.out, if_pos hz] at cO
              have HNEXT := Lib.hid (show O (k2 + 1) = [] by rw [HOK.out, if_pos hz])
              clear hz
              go_wp2
              go_roundw
              case rel => exact ⟨k2 + 1, by omega, by go_num, by rw [HNEXT.out], by trivial⟩
              case measure => simp [intOf]; omega
            · have d6 : (z7 == 0) = false := by simpa using hz
              rw [HOK.out, if_neg hz] at cO
              have HNEXT := Lib.hid (show O (k2 + 1) = O k2 by rw [HOK.out, if_neg hz])
              have dS : (O k2 == O k2) = true := by simp
              clear hz
              go_wp2
              go_roundw
              case rel => exact ⟨k2 + 1, by omega, by go_num, by rw [HNEXT.out], by trivial⟩
              case measure => simp [intOf]; omega
          · have d5 : decide ((k2 : Int) + 1 < Y.c.N) = false := by rw [HNY.out]; simp; omega
            go_wp2
            go_ret
            exact ⟨rfl, hB6⟩
  case true =>
    have hB : Below w.heap.size w ((w.alloc (.cells #[.int .i64 c.N, .int .i64 c.Pi, .int .i64 c.E, .int .i64 c.G, .int .i64 c.F, .slice a c.P.length cap] 24)).alloc (.cells #[.int .i64 y.K, .int .i64 y.R, .int .i64 y.S, .int .i64 y.P.K, .int .i64 y.P.V, .slice ya y.E.length yc] 32)) := (alloc_below w _).alloc (by simp) _
    have hC : Blk ((w.alloc (.cells #[.int .i64 c.N, .int .i64 c.Pi, .int .i64 c.E, .int .i64 c.G, .int .i64 c.F, .slice a c.P.length cap] 24)).alloc (.cells #[.int .i64 y.K, .int .i64 y.R, .int .i64 y.S, .int .i64 y.P.K, .int .i64 y.P.V, .slice ya y.E.length yc] 32)) w.heap.size 24 (confBox c a cap) := (Blk.new w _ _).alloc _
    have hY : Blk ((w.alloc (.cells #[.int .i64 c.N, .int .i64 c.Pi, .int .i64 c.E, .int .i64 c.G, .int .i64 c.F, .slice a c.P.length cap] 24)).alloc (.cells #[.int .i64 y.K, .int .i64 y.R, .int .i64 y.S, .int .i64 y.P.K, .int .i64 y.P.V, .slice ya y.E.length yc] 32)) (w.heap.size + 1) 32 (frBox y ya yc) := Blk.newAt _ _ (by simp)
    have HCM := Lib.hid (fun W h1 h4 => ccalm_any c a cap ⟨0, 0, 0, 0, [], []⟩ none 0 none 0 y9 y ya yc na ns nc (1) W h1 (RowA.empty _ _) (Row.empty _ _) h4 ⟨y1, y2⟩ iK iR iV)
    obtain ⟨hx0, hf0⟩ := calmC_x c ⟨0, 0, 0, 0, [], []⟩ y9 y ns (1)
    generalize calmC c ⟨0, 0, 0, 0, [], []⟩ y9 y ns (1) = X at *
    have HF0 := Lib.hid hf0
    clear hf0
    go_enter Tryz.func10, Tryz.ntmps10
    go_upto_region 1 with fail
    generalize ((w.alloc (.cells #[.int .i64 c.N, .int .i64 c.Pi, .int .i64 c.E, .int .i64 c.G, .int .i64 c.F, .slice a c.P.length cap] 24)).alloc (.cells #[.int .i64 y.K, .int .i64 y.R, .int .i64 y.S, .int .i64 y.P.K, .int .i64 y.P.V, .slice ya y.E.length yc] 32)) = w1 at *
    go_wp2_with fail
    refine (known9_any _ (hbd.later hB)).mono ?_
    rintro e w2 ⟨rfl, hb⟩
    replace hB := hB.trans (hb.mono hB.size)
    replace hC := hC.later hb
    replace hY := hY.later hb
    clear hb
    have hww : w.heap.size ≤ w2.heap.size := hB.size
    have hqc := hC.at
    unfold confBox at hqc
    have hqy := hY.at
    unfold frBox at hqy
    go_wp2_with fail
    refine (HCM.out _ (hrow.later hB) (hns.later hB)).mono ?_
    rintro e w3 ⟨A, base, rfl, hM, hwb, ho1, ho2, hap, hpP, hpA, hpD, hpS, hb⟩
    replace hB := hB.trans (hb.mono hB.size)
    clear hb hqc hqy hC hY HCM
    simp only []
    refine at_K (by assumption) ?_
    refine wpList_case 14 30 (#[.int .i64 X.c.N, .int .i64 X.c.Pi, .int .i64 X.c.E, .int .i64 X.c.G, .int .i64 X.c.F, .slice A.ca X.c.P.length A.cc, .int .i64 X.f.K, .int .i64 X.f.At, .int .i64 X.f.F, .int .i64 X.f.To, .slice A.fa X.f.A.length A.fac, .slice A.fd X.f.D.length A.fdc, .int .i64 X.r, .int .i64 X.s, .int .i64 X.d, .slice A.sa X.sends.length A.sc, .slice A.ta X.st.length A.tc, .slice A.va X.dv.length A.vc]) rfl rfl rfl rfl rfl rfl rfl rfl (by simp [Value.oneCell']) (by simp) (by decide) ?_
    have hXb := Blk.new w3 37 (#[.int .i64 X.c.N, .int .i64 X.c.Pi, .int .i64 X.c.E, .int .i64 X.c.G, .int .i64 X.c.F, .slice A.ca X.c.P.length A.cc, .int .i64 X.f.K, .int .i64 X.f.At, .int .i64 X.f.F, .int .i64 X.f.To, .slice A.fa X.f.A.length A.fac, .slice A.fd X.f.D.length A.fdc, .int .i64 X.r, .int .i64 X.s, .int .i64 X.d, .slice A.sa X.sends.length A.sc, .slice A.ta X.st.length A.tc, .slice A.va X.dv.length A.vc])
    have hb3 := alloc_below w3 (.cells (#[.int .i64 X.c.N, .int .i64 X.c.Pi, .int .i64 X.c.E, .int .i64 X.c.G, .int .i64 X.c.F, .slice A.ca X.c.P.length A.cc, .int .i64 X.f.K, .int .i64 X.f.At, .int .i64 X.f.F, .int .i64 X.f.To, .slice A.fa X.f.A.length A.fac, .slice A.fd X.f.D.length A.fdc, .int .i64 X.r, .int .i64 X.s, .int .i64 X.d, .slice A.sa X.sends.length A.sc, .slice A.ta X.st.length A.tc, .slice A.va X.dv.length A.vc]) 37)
    generalize w3.alloc (.cells (#[.int .i64 X.c.N, .int .i64 X.c.Pi, .int .i64 X.c.E, .int .i64 X.c.G, .int .i64 X.c.F, .slice A.ca X.c.P.length A.cc, .int .i64 X.f.K, .int .i64 X.f.At, .int .i64 X.f.F, .int .i64 X.f.To, .slice A.fa X.f.A.length A.fac, .slice A.fd X.f.D.length A.fdc, .int .i64 X.r, .int .i64 X.s, .int .i64 X.d, .slice A.sa X.sends.length A.sc, .slice A.ta X.st.length A.tc, .slice A.va X.dv.length A.vc]) 37) = w4 at *
    have n6 := hx0.c.n6
    have n12 := hx0.c.n12
    have hBw := hB.size
    obtain ⟨N, hN⟩ : ∃ N : Nat, X.c.N = N := ⟨X.c.N.toNat, by omega⟩
    have hst := hx0.st
    rw [show X.c.N.toNat = N by omega] at hst
    have N12 : N ≤ 12 := by omega
    have N6 : 6 ≤ N := by omega
    obtain ⟨tb, hta, htb0, htb1, -, -⟩ := ho1.at (by rw [hst, List.length_replicate]; omega)
    have HTA := Lib.hid hta
    have hbl := hbs.later (hB.trans (hb3.mono hB.size))
    have ho3 : OwnI base w4 (.slice (some ⟨tb, 0, none⟩) (stOff bs X.s N 0).length A.tc) (stOff bs X.s N 0) := by
      have := ho1.later hb3
      rw [hta, hst] at this
      rw [stOff_zero]
      exact this
    have hrel0 : OffAt w w4 w3.heap.size tb base N A.tc X A bs (.int .i64 (0 : Nat)) w4 := ⟨0, Nat.zero_le _, rfl, hB.trans (hb3.mono hB.size), ⟨Nat.le_refl _, fun _ _ _ _ => rfl⟩, ho3⟩
    have hstl : X.st.length = N := by rw [hst, List.length_replicate]
    have HNN := Lib.hid hN
    have HST := Lib.hid hst
    have HSTL := Lib.hid hstl
    have hxt : w3.heap.size ≠ tb := by omega
    have hxl : w3.heap.size < w4.heap.size := hXb.lt
    have htl : tb < w4.heap.size := by omega
    clear hN hst hta ho3 hstl
    have hqx := hXb.at
    rw [HTA.out] at hqx
    have HXQ := Lib.hid hqx
    clear hqx
    go_upto_region 8 with fail
    go_wp2
    go_loopw [15] (fun i W => OffAt w w4 w3.heap.size tb base N A.tc X A bs i W) (fun i _ => N - (intOf i).toNat)
    case atStart => exact hrel0
    case round =>
      clear hrel0
      obtain ⟨k, hk, rfl, hBW, hTW, hoW⟩ := hrel
      have hXW := hXb.two hxt hxt hTW
      have hq := hXW.at
      rw [HTA.out] at hq
      by_cases hlt : k < N
      · have d1 : decide ((k : Int) < X.c.N) = true := by have := HNN.out; simp; omega
        by_cases hl2 : k < bs.length
        · have d2 : decide ((k : Int) < (bs.length : Int)) = true := by simp; omega
          have d2' : decide (k < bs.length) = true := by simpa using hl2
          have g0 : (0 : Int) ≤ (k : Int) := by omega
          have g1 : (k : Int) < (bs.length : Int) := by omega
          have g2 : (k : Int) < (X.st.length : Int) := by have := HSTL.out; omega
          obtain ⟨ob, off, rfl, hob, hcell⟩ := (hbs.later hBW).get k hl2
          have hbd' : bs.getD k false = bs[k] := by rw [List.getD_eq_getElem?_getD, List.getElem?_eq_getElem hl2]; rfl
          obtain ⟨g7, hg7, -, -, hcs, hfs⟩ := hoW.at (by rw [stOff_len]; omega)
          have hg8 : g7 = tb := by injection hg7 with e; injection e with e; exact e.symm
          rw [hg8] at hcs hfs
          clear hg7 hg8 g7
          have hc5 := hcs k (by rw [stOff_len]; exact hlt)
          have hf5 := hfs k
          have HOW := Lib.hid hoW
          clear hcs hfs hoW
          generalize (stOff bs X.s N k)[k]'(by rw [stOff_len]; exact hlt) = z5 at *
          cases hbk : bs[k]
          · rw [hbk] at hcell hbd'
            have HRL := Lib.hid (show OffAt w w4 w3.heap.size tb base N A.tc X A bs (.int .i64 ((k : Int) + 1)) wr from ⟨k + 1, by omega, rfl, hBW, hTW, by rw [stOff_no bs X.s N k (.inl hbd')]; exact HOW.out⟩)
            clear hbk hbd' hc5 hf5
            go_wp2
            go_roundw
            case rel => exact HRL.out
            case measure => simp [intOf]; omega
          · rw [hbk] at hcell hbd'
            by_cases hks : (k : Int) = X.s
            · have d3 : ((k : Int) != X.s) = false := by rw [hks]; simp
              have HRL := Lib.hid (show OffAt w w4 w3.heap.size tb base N A.tc X A bs (.int .i64 ((k : Int) + 1)) wr from ⟨k + 1, by omega, rfl, hBW, hTW, by rw [stOff_no bs X.s N k (.inr hks)]; exact HOW.out⟩)
              clear hbk hbd' hc5 hf5 hks
              go_wp2
              go_roundw
              case rel => exact HRL.out
              case measure => simp [intOf]; omega
            · have d3 : ((k : Int) != X.s) = true := by simpa using hks
              have HRL := Lib.hid (show OffAt w w4 w3.heap.size tb base N A.tc X A bs (.int .i64 ((k : Int) + 1)) (wr.setCell ⟨tb, k, none⟩ (.int .i64 0)) from ⟨k + 1, by omega, rfl, hBW.setCell (p := ⟨tb, k, none⟩) (by show w.heap.size ≤ tb; omega) _, hTW.trans (setCell_off tb k _ wr tb tb (.inl rfl)), by
                rw [stOff_yes bs X.s N k hlt hbd' hks]
                exact HOW.out.put k (by rw [stOff_len]; exact hlt) 0⟩)
              clear hbk hbd' hks
              go_wp2
              go_roundw
              case rel => exact HRL.out
              case measure => simp [intOf]; omega
        · have d2 : decide ((k : Int) < (bs.length : Int)) = false := by simp; omega
          have d2' : decide (k < bs.length) = false := by simpa using hl2
          go_upto_region 12 with fail
          clear hq
          obtain ⟨L, hLs⟩ : ∃ L, L = stOff bs X.s N k := ⟨_, rfl⟩
          have hLl : L.length = N := by rw [hLs, stOff_len]
          have hL4 : ∀ z ∈ L, z = 0 ∨ z = 4 := by rw [hLs]; exact stOff_04 bs X.s N k
          rw [← hLs] at hoW
          obtain ⟨Y, hY⟩ : ∃ Y : Cs, Y = { X with st := L, dv := X.dv } := ⟨_, rfl⟩
          have hYb : Blk wr w3.heap.size 37 (#[.int .i64 Y.c.N, .int .i64 Y.c.Pi, .int .i64 Y.c.E, .int .i64 Y.c.G, .int .i64 Y.c.F, .slice A.ca Y.c.P.length A.cc, .int .i64 Y.f.K, .int .i64 Y.f.At, .int .i64 Y.f.F, .int .i64 Y.f.To, .slice A.fa Y.f.A.length A.fac, .slice A.fd Y.f.D.length A.fdc, .int .i64 Y.r, .int .i64 Y.s, .int .i64 Y.d, .slice A.sa Y.sends.length A.sc, .slice A.ta Y.st.length A.tc, .slice A.va Y.dv.length A.vc]) := by
            subst hY
            show Blk wr w3.heap.size _ #[.int .i64 X.c.N, .int .i64 X.c.Pi, .int .i64 X.c.E, .int .i64 X.c.G, .int .i64 X.c.F, .slice A.ca X.c.P.length A.cc, .int .i64 X.f.K, .int .i64 X.f.At, .int .i64 X.f.F, .int .i64 X.f.To, .slice A.fa X.f.A.length A.fac, .slice A.fd X.f.D.length A.fdc, .int .i64 X.r, .int .i64 X.s, .int .i64 X.d, .slice A.sa X.sends.length A.sc, .slice A.ta L.length A.tc, .slice A.va X.dv.length A.vc]
            rw [hLl, ← HSTL.out]
            exact hXW
          have okX : X.Ok := hx0.ok (by first | exact .inl rfl | exact .inr rfl) (by rw [HF0.out]; show (0 : Nat) ≤ _; omega) (by rw [HF0.out]; intro q hq; cases hq)
          have okY : Y.Ok := by rw [hY]; exact okX.withRows L X.dv (by rw [hLl, HSTL.out]) rfl
          have hM4 := hM.later hb3
          have hMY : CsM Y A wr := by
            subst hY
            refine ⟨hM4.P.twoLt (hpP.imp id fun q p e => by have := q p e; omega) hTW, hM4.A.two (hpA.imp id fun q p e => by have := q p e; omega) hTW, hM4.D.twoLt (hpD.imp id fun q p e => by have := q p e; omega) hTW, hM4.S.two (hpS.imp id fun q p e => by have := q p e; omega) hTW, ?_, hM4.V.twoLt (.inr fun p e => by have := hap _ p HTA.out e; exact ⟨fun q => this q.symm, fun q => this q.symm⟩) hTW⟩
            show Row wr A.ta L
            rw [HTA.out]
            exact hoW.row (by omega) (fun z hz => by rcases hL4 z hz with rfl | rfl <;> omega)
          have s1Y : Y.s < Y.c.N := by rw [hY]; exact hx0.s1
          have hfacts := off_facts okY s1Y (by rw [hY]; show X.f.K = 0; rw [HF0.out]) (by rw [hY]; show X.f.A = []; rw [HF0.out]) (by rw [hY]; exact hx0.dv) (by rw [hY]; exact hL4)
          have hsY : Y.s = X.s := by rw [hY]
          have hdY : Y.d = 1 := by rw [hY]; exact hx0.d
          have hNY : Y.c.N = N := by rw [hY]; exact HNN.out
          have hstY : Y.st = L := by rw [hY]
          have hsl : Y.sends.length = 1 := by rw [hY]; exact hx0.sl
          have HR := Lib.hid (show Calls Tryz.prog 19 #[.agg #[.int .i64 Y.c.N, .int .i64 Y.c.Pi, .int .i64 Y.c.E, .int .i64 Y.c.G, .int .i64 Y.c.F, .slice A.ca Y.c.P.length A.cc, .int .i64 Y.f.K, .int .i64 Y.f.At, .int .i64 Y.f.F, .int .i64 Y.f.To, .slice A.fa Y.f.A.length A.fac, .slice A.fd Y.f.D.length A.fdc, .int .i64 Y.r, .int .i64 Y.s, .int .i64 Y.d, .slice A.sa Y.sends.length A.sc, .slice A.ta Y.st.length A.tc, .slice A.va Y.dv.length A.vc]] wr (SideRet 53 N Y.end wr) by
            have := crun_any Y A wr (hbd.later hBW) okY hMY
            rw [show Y.c.N.toNat = N by omega] at this
            exact this)
          have hRS := hMY.S
          have hRT := hMY.T
          rw [hstY] at hRT
          clear hXW hoW hM4 okX hM hTW hLs hbs hbl
          rw [hdY] at hfacts
          have s0Y : 0 ≤ Y.s := okY.s0
          have HSY := Lib.hid hsY
          have HNY := Lib.hid hNY
          have HSTY := Lib.hid hstY
          have HSL := Lib.hid hsl
          have HLL := Lib.hid hLl
          have HFC := Lib.hid hfacts
          have HY := Lib.hid hY
          clear okY hMY hsY hNY hstY hsl hdY hLl hfacts hY
          refine wp_region_list ?_
          refine wpList_load_row rfl 37 (.tmp 14) rfl w3.heap.size rfl 37 _ (0, 0) _ hYb Tryz.underlying37 rfl (by kernel_rfl) ?_
          go_wp2_with fail
          refine (HR.out).mono ?_
          rintro e w6 ⟨lb, M, rfl, hlo, hL, hSM, hb⟩
          have hB6 := hBW.trans (hb.mono hBW.size)
          have hY6 := hYb.later hb
          replace hRS := hRS.later hb
          replace hRT := hRT.later hb
          generalize Y.end = G at *
          generalize Y.sp.o = O at *
          clear hb hYb HR hBW
          have g1 : (0 : Int) < (Y.sends.length : Int) := by rw [HSL.out]; decide
          obtain ⟨S, hS⟩ : ∃ S, Y.sends = [S] := List.length_eq_one_iff.1 HSL.out
          rw [hS] at hRS
          obtain ⟨sb, so, hsa, -, hcell⟩ := hRS.get 0 (by simp)
          have hcell2 : w6.cell? ⟨sb, so, none⟩ = some (.string ⟨S.toArray⟩) := by simpa using hcell
          have HSD := Lib.hid (show O 0 = S by rw [HFC.out.1, hS]; rfl)
          have dN : ((N : Int) != Y.c.N) = false := by rw [HNY.out]; simp
          have hq := hY6.at
          rw [hsa, HTA.out] at hq
          have HRT := Lib.hid hRT
          clear hcell hRS hS hsa hRT
          go_wp2
          go_loopw [17, 18] (fun u i W => ∃ k : Nat, k + 1 ≤ N ∧ i = .int .i64 ((k : Int) + 1) ∧ u = .string ⟨(O k).toArray⟩ ∧ W = w6) (fun _ i _ => N - (intOf i).toNat)
          case atStart => exact ⟨0, by omega, rfl, by rw [HSD.out], rfl⟩
          case round =>
            obtain ⟨k2, hk2, rfl, rfl, rfl⟩ := hrel
            by_cases hlt2 : k2 + 1 < N
            · have d5 : decide ((k2 : Int) + 1 < Y.c.N) = true := by have := HNY.out; simp; omega
              have y6 : 6 ≤ Y.c.N := by rw [HNY.out]; omega
              have y12 : Y.c.N ≤ 12 := by rw [HNY.out]; omega
              have k20 : k2 < 20 := by omega
              have HA := Lib.hid (at_step Y.c.N Y.s (1) (by first | exact .inl rfl | exact .inr rfl) y6 y12 s0Y s1Y k2 k20)
              have HOK := Lib.hid (HFC.out.2.2 k2)
              have HGK := Lib.hid (show (G ((Y.s + (1) * ((k2 : Int) + 1)) % Y.c.N).toNat).O = O (k2 + 1) ∧ (G ((Y.s + (1) * ((k2 : Int) + 1)) % Y.c.N).toNat).F = (k2 : Int) + 1 by
                have := HFC.out.2.1 (k2 + 1) (by rw [HNY.out]; omega)
                rw [show ((k2 + 1 : Nat) : Int) = (k2 : Int) + 1 from Int.natCast_succ k2] at this
                exact this)
              obtain ⟨j0, j1⟩ := mod_in Y.c.N (Y.s + (1) * ((k2 : Int) + 1)) y6
              rw [HSTY.out] at HOK
              obtain ⟨z1, z2, z3⟩ := wrap_step (1) (by first | exact .inl rfl | exact .inr rfl) k2 k20
              go_wp2_with fail
              refine (HA.out _ (by first | rfl | (clear z1 z2 z3; omega)) _).mono ?_
              clear z1 z2 z3
              rintro e wl ⟨rfl, rfl⟩
              generalize (Y.s + (1) * ((k2 : Int) + 1)) % Y.c.N = j at *
              obtain ⟨jn, hjn⟩ : ∃ jn : Nat, j = jn := ⟨j.toNat, by omega⟩
              subst hjn
              rw [Int.toNat_natCast] at HOK HGK
              have hjN : jn < N := by have := HNY.out; omega
              have hrt := HRT.out
              rw [HTA.out] at hrt
              have hjL : jn < L.length := by rw [HLL.out]; exact hjN
              obtain ⟨b7, o7, e7, -, hc7, -, -⟩ := hrt.get jn hjL
              obtain ⟨rfl, rfl⟩ : tb = b7 ∧ 0 = o7 := by injection e7 with e7; injection e7 with q1 q2; exact ⟨q1, q2⟩
              have hc8 : wr.cell? ⟨tb, jn, none⟩ = some (.int .i64 L[jn]) := by simpa using hc7
              have hLg : L.getD jn 0 = L[jn] := by rw [List.getD_eq_getElem?_getD, List.getElem?_eq_getElem hjL]; rfl
              rw [hLg] at HOK
              generalize L[jn] = z7 at *
              have g3 : (0 : Int) ≤ (jn : Int) := by omega
              have g4 : (jn : Int) < (N : Int) := by omega
              have g5 : (jn : Int) < (Y.st.length : Int) := by rw [HSTY.out, HLL.out]; exact g4
              obtain ⟨cO, cF⟩ := side_cells hL hSM jn hjN
              rw [HGK.out.1] at cO
              rw [HGK.out.2] at cF
              clear hrt hc7 e7 hLg
              by_cases hz : z7 = 0
              · have d6 : (z7 == 0) = true := by simp [hz]
                rw [HOK.out, if_pos hz] at cO
                have HNEXT := Lib.hid (show O (k2 + 1) = [] by rw [HOK.out, if_pos hz])
                clear hz
                go_wp2
                go_roundw
                case rel => exact ⟨k2 + 1, by omega, by go_num, by rw [HNEXT.out], by trivial⟩
                case measure => simp [intOf]; omega
              · have d6 : (z7 == 0) = false := by simpa using hz
                rw [HOK.out, if_neg hz] at cO
                have HNEXT := Lib.hid (show O (k2 + 1) = O k2 by rw [HOK.out, if_neg hz])
                have dS : (O k2 == O k2) = true := by simp
                clear hz
                go_wp2
                go_roundw
                case rel => exact ⟨k2 + 1, by omega, by go_num, by rw [HNEXT.out], by trivial⟩
                case measure => simp [intOf]; omega
            · have d5 : decide ((k2 : Int) + 1 < Y.c.N) = false := by rw [HNY.out]; simp; omega
              go_wp2
              go_ret
              exact ⟨rfl, hB6⟩
      · have d1 : decide ((k : Int) < X.c.N) = false := by have := HNN.out; simp; omega
        go_upto_region 12 with fail
        clear hq
        obtain ⟨L, hLs⟩ : ∃ L, L = stOff bs X.s N k := ⟨_, rfl⟩
        have hLl : L.length = N := by rw [hLs, stOff_len]
        have hL4 : ∀ z ∈ L, z = 0 ∨ z = 4 := by rw [hLs]; exact stOff_04 bs X.s N k
        rw [← hLs] at hoW
        obtain ⟨Y, hY⟩ : ∃ Y : Cs, Y = { X with st := L, dv := X.dv } := ⟨_, rfl⟩
        have hYb : Blk wr w3.heap.size 37 (#[.int .i64 Y.c.N, .int .i64 Y.c.Pi, .int .i64 Y.c.E, .int .i64 Y.c.G, .int .i64 Y.c.F, .slice A.ca Y.c.P.length A.cc, .int .i64 Y.f.K, .int .i64 Y.f.At, .int .i64 Y.f.F, .int .i64 Y.f.To, .slice A.fa Y.f.A.length A.fac, .slice A.fd Y.f.D.length A.fdc, .int .i64 Y.r, .int .i64 Y.s, .int .i64 Y.d, .slice A.sa Y.sends.length A.sc, .slice A.ta Y.st.length A.tc, .slice A.va Y.dv.length A.vc]) := by
          subst hY
          show Blk wr w3.heap.size _ #[.int .i64 X.c.N, .int .i64 X.c.Pi, .int .i64 X.c.E, .int .i64 X.c.G, .int .i64 X.c.F, .slice A.ca X.c.P.length A.cc, .int .i64 X.f.K, .int .i64 X.f.At, .int .i64 X.f.F, .int .i64 X.f.To, .slice A.fa X.f.A.length A.fac, .slice A.fd X.f.D.length A.fdc, .int .i64 X.r, .int .i64 X.s, .int .i64 X.d, .slice A.sa X.sends.length A.sc, .slice A.ta L.length A.tc, .slice A.va X.dv.length A.vc]
          rw [hLl, ← HSTL.out]
          exact hXW
        have okX : X.Ok := hx0.ok (by first | exact .inl rfl | exact .inr rfl) (by rw [HF0.out]; show (0 : Nat) ≤ _; omega) (by rw [HF0.out]; intro q hq; cases hq)
        have okY : Y.Ok := by rw [hY]; exact okX.withRows L X.dv (by rw [hLl, HSTL.out]) rfl
        have hM4 := hM.later hb3
        have hMY : CsM Y A wr := by
          subst hY
          refine ⟨hM4.P.twoLt (hpP.imp id fun q p e => by have := q p e; omega) hTW, hM4.A.two (hpA.imp id fun q p e => by have := q p e; omega) hTW, hM4.D.twoLt (hpD.imp id fun q p e => by have := q p e; omega) hTW, hM4.S.two (hpS.imp id fun q p e => by have := q p e; omega) hTW, ?_, hM4.V.twoLt (.inr fun p e => by have := hap _ p HTA.out e; exact ⟨fun q => this q.symm, fun q => this q.symm⟩) hTW⟩
          show Row wr A.ta L
          rw [HTA.out]
          exact hoW.row (by omega) (fun z hz => by rcases hL4 z hz with rfl | rfl <;> omega)
        have s1Y : Y.s < Y.c.N := by rw [hY]; exact hx0.s1
        have hfacts := off_facts okY s1Y (by rw [hY]; show X.f.K = 0; rw [HF0.out]) (by rw [hY]; show X.f.A = []; rw [HF0.out]) (by rw [hY]; exact hx0.dv) (by rw [hY]; exact hL4)
        have hsY : Y.s = X.s := by rw [hY]
        have hdY : Y.d = 1 := by rw [hY]; exact hx0.d
        have hNY : Y.c.N = N := by rw [hY]; exact HNN.out
        have hstY : Y.st = L := by rw [hY]
        have hsl : Y.sends.length = 1 := by rw [hY]; exact hx0.sl
        have HR := Lib.hid (show Calls Tryz.prog 19 #[.agg #[.int .i64 Y.c.N, .int .i64 Y.c.Pi, .int .i64 Y.c.E, .int .i64 Y.c.G, .int .i64 Y.c.F, .slice A.ca Y.c.P.length A.cc, .int .i64 Y.f.K, .int .i64 Y.f.At, .int .i64 Y.f.F, .int .i64 Y.f.To, .slice A.fa Y.f.A.length A.fac, .slice A.fd Y.f.D.length A.fdc, .int .i64 Y.r, .int .i64 Y.s, .int .i64 Y.d, .slice A.sa Y.sends.length A.sc, .slice A.ta Y.st.length A.tc, .slice A.va Y.dv.length A.vc]] wr (SideRet 53 N Y.end wr) by
          have := crun_any Y A wr (hbd.later hBW) okY hMY
          rw [show Y.c.N.toNat = N by omega] at this
          exact this)
        have hRS := hMY.S
        have hRT := hMY.T
        rw [hstY] at hRT
        clear hXW hoW hM4 okX hM hTW hLs hbs hbl
        rw [hdY] at hfacts
        have s0Y : 0 ≤ Y.s := okY.s0
        have HSY := Lib.hid hsY
        have HNY := Lib.hid hNY
        have HSTY := Lib.hid hstY
        have HSL := Lib.hid hsl
        have HLL := Lib.hid hLl
        have HFC := Lib.hid hfacts
        have HY := Lib.hid hY
        clear okY hMY hsY hNY hstY hsl hdY hLl hfacts hY
        refine wp_region_list ?_
        refine wpList_load_row rfl 37 (.tmp 14) rfl w3.heap.size rfl 37 _ (0, 0) _ hYb Tryz.underlying37 rfl (by kernel_rfl) ?_
        go_wp2_with fail
        refine (HR.out).mono ?_
        rintro e w6 ⟨lb, M, rfl, hlo, hL, hSM, hb⟩
        have hB6 := hBW.trans (hb.mono hBW.size)
        have hY6 := hYb.later hb
        replace hRS := hRS.later hb
        replace hRT := hRT.later hb
        generalize Y.end = G at *
        generalize Y.sp.o = O at *
        clear hb hYb HR hBW
        have g1 : (0 : Int) < (Y.sends.length : Int) := by rw [HSL.out]; decide
        obtain ⟨S, hS⟩ : ∃ S, Y.sends = [S] := List.length_eq_one_iff.1 HSL.out
        rw [hS] at hRS
        obtain ⟨sb, so, hsa, -, hcell⟩ := hRS.get 0 (by simp)
        have hcell2 : w6.cell? ⟨sb, so, none⟩ = some (.string ⟨S.toArray⟩) := by simpa using hcell
        have HSD := Lib.hid (show O 0 = S by rw [HFC.out.1, hS]; rfl)
        have dN : ((N : Int) != Y.c.N) = false := by rw [HNY.out]; simp
        have hq := hY6.at
        rw [hsa, HTA.out] at hq
        have HRT := Lib.hid hRT
        clear hcell hRS hS hsa hRT
        go_wp2
        go_loopw [17, 18] (fun u i W => ∃ k : Nat, k + 1 ≤ N ∧ i = .int .i64 ((k : Int) + 1) ∧ u = .string ⟨(O k).toArray⟩ ∧ W = w6) (fun _ i _ => N - (intOf i).toNat)
        case atStart => exact ⟨0, by omega, rfl, by rw [HSD.out], rfl⟩
        case round =>
          obtain ⟨k2, hk2, rfl, rfl, rfl⟩ := hrel
          by_cases hlt2 : k2 + 1 < N
          · have d5 : decide ((k2 : Int) + 1 < Y.c.N) = true := by have := HNY.out; simp; omega
            have y6 : 6 ≤ Y.c.N := by rw [HNY.out]; omega
            have y12 : Y.c.N ≤ 12 := by rw [HNY.out]; omega
            have k20 : k2 < 20 := by omega
            have HA := Lib.hid (at_step Y.c.N Y.s (1) (by first | exact .inl rfl | exact .inr rfl) y6 y12 s0Y s1Y k2 k20)
            have HOK := Lib.hid (HFC.out.2.2 k2)
            have HGK := Lib.hid (show (G ((Y.s + (1) * ((k2 : Int) + 1)) % Y.c.N).toNat).O = O (k2 + 1) ∧ (G ((Y.s + (1) * ((k2 : Int) + 1)) % Y.c.N).toNat).F = (k2 : Int) + 1 by
              have := HFC.out.2.1 (k2 + 1) (by rw [HNY.out]; omega)
              rw [show ((k2 + 1 : Nat) : Int) = (k2 : Int) + 1 from Int.natCast_succ k2] at this
              exact this)
            obtain ⟨j0, j1⟩ := mod_in Y.c.N (Y.s + (1) * ((k2 : Int) + 1)) y6
            rw [HSTY.out] at HOK
            obtain ⟨z1, z2, z3⟩ := wrap_step (1) (by first | exact .inl rfl | exact .inr rfl) k2 k20
            go_wp2_with fail
            refine (HA.out _ (by first | rfl | (clear z1 z2 z3; omega)) _).mono ?_
            clear z1 z2 z3
            rintro e wl ⟨rfl, rfl⟩
            generalize (Y.s + (1) * ((k2 : Int) + 1)) % Y.c.N = j at *
            obtain ⟨jn, hjn⟩ : ∃ jn : Nat, j = jn := ⟨j.toNat, by omega⟩
            subst hjn
            rw [Int.toNat_natCast] at HOK HGK
            have hjN : jn < N := by have := HNY.out; omega
            have hrt := HRT.out
            rw [HTA.out] at hrt
            have hjL : jn < L.length := by rw [HLL.out]; exact hjN
            obtain ⟨b7, o7, e7, -, hc7, -, -⟩ := hrt.get jn hjL
            obtain ⟨rfl, rfl⟩ : tb = b7 ∧ 0 = o7 := by injection e7 with e7; injection e7 with q1 q2; exact ⟨q1, q2⟩
            have hc8 : wr.cell? ⟨tb, jn, none⟩ = some (.int .i64 L[jn]) := by simpa using hc7
            have hLg : L.getD jn 0 = L[jn] := by rw [List.getD_eq_getElem?_getD, List.getElem?_eq_getElem hjL]; rfl
            rw [hLg] at HOK
            generalize L[jn] = z7 at *
            have g3 : (0 : Int) ≤ (jn : Int) := by omega
            have g4 : (jn : Int) < (N : Int) := by omega
            have g5 : (jn : Int) < (Y.st.length : Int) := by rw [HSTY.out, HLL.out]; exact g4
            obtain ⟨cO, cF⟩ := side_cells hL hSM jn hjN
            rw [HGK.out.1] at cO
            rw [HGK.out.2] at cF
            clear hrt hc7 e7 hLg
            by_cases hz : z7 = 0
            · have d6 : (z7 == 0) = true := by simp [hz]
              rw [HOK.out, if_pos hz] at cO
              have HNEXT := Lib.hid (show O (k2 + 1) = [] by rw [HOK.out, if_pos hz])
              clear hz
              go_wp2
              go_roundw
              case rel => exact ⟨k2 + 1, by omega, by go_num, by rw [HNEXT.out], by trivial⟩
              case measure => simp [intOf]; omega
            · have d6 : (z7 == 0) = false := by simpa using hz
              rw [HOK.out, if_neg hz] at cO
              have HNEXT := Lib.hid (show O (k2 + 1) = O k2 by rw [HOK.out, if_neg hz])
              have dS : (O k2 == O k2) = true := by simp
              clear hz
              go_wp2
              go_roundw
              case rel => exact ⟨k2 + 1, by omega, by go_num, by rw [HNEXT.out], by trivial⟩
              case measure => simp [intOf]; omega
          · have d5 : decide ((k2 : Int) + 1 < Y.c.N) = false := by rw [HNY.out]; simp; omega
            go_wp2
            go_ret
            exact ⟨rfl, hB6⟩

end Go.Proofs.YthhmedlefahccaaGreatDoor
namespace Go.Proofs.YthhmedlefahccaaGreatDoor
open Go.ChangeShapes Go.WideShapes Go.ChangeAt Go.RowKit Plait
set_option maxRecDepth 100000
open Go.ChangeMaps (open_string shut_string)
set_option linter.unusedVariables false

set_option maxRecDepth 100000 in
theorem spreadOff_lifted (os : Os) (started : os.Started) (H : Type) (enc : TypeId × Value → H) :
    ReturnsInHanded {} Tryz.checked os 10 .any (fun w args => (Rows.spreadOffSpec.pre enc Tryz.prog Tryz.f10 [] false w args ∧ laidMetH Tryz.prog laidV w) ∧ sizedMet enc Tryz.prog Tryz.f10 (OpenSpec.ofChange Rows.spreadOffSpec) false w args)
      (Rows.spreadOffSpec.post enc Tryz.prog Tryz.f10 false true false false) := by
  refine returnsInHanded_of_change_and (C := Tryz.checked) (X := fun w _ => laidMetH Tryz.prog laidV w) (fun _ _ _ hh h => h.of_heap hh) own started (by kernel_rfl) Tryz.func10
    (ChangeSpec.witness_shaped (enc := enc) (C := Tryz.checked) (os := os) (X := fun w _ => laidMetH Tryz.prog laidV w) false (World.doorLaid Tryz.prog 400 os) #[.agg #[.int .i64 0, .int .i64 0, .int .i64 0, .int .i64 0, .int .i64 0, .slice none 0 0], .int .i64 0, .slice none 0 0, .agg #[.int .i64 0, .int .i64 0, .int .i64 0, .int .i64 0, .int .i64 0, .slice none 0 0], .slice none 0 0, .bool false] 8 rfl (World.shaped_of_RefB (by kernel_rfl) (by kernel_rfl)) (by kernel_rfl) (by kernel_rfl) (by kernel_rfl) (door_met os _)) ?_
  intro W base args ds gs before hval0 hW _ _ hL _
  have hval : ∀ (j : Nat) t v, Tryz.f10.params[j]? = some t → args[j]? = some v → Value.okWide Tryz.prog W .any base t v := hval0
  have hW' := hW
  obtain ⟨p, q, hA0, hV, rfl, hfz, hnd⟩ := hW
  have hA : DataW.TrodAll enc Tryz.prog W 0 (fun _ => true) true Tryz.f10.params.toList args.toList ds p := hA0
  rw [Tryz.params10] at hA hval
  obtain ⟨v0, vs0, d0, ds0, p0, q0, hargs, rfl, rfl, h0, r0⟩ := trodAll_cons hA
  obtain ⟨v1, vs1, d1, ds1, p1, q1, rfl, rfl, rfl, h1, r1⟩ := trodAll_cons r0
  obtain ⟨v2, vs2, d2, ds2, p2, q2, rfl, rfl, rfl, h2, r2⟩ := trodAll_cons r1
  obtain ⟨v3, vs3, d3, ds3, p3, q3, rfl, rfl, rfl, h3, r3⟩ := trodAll_cons r2
  obtain ⟨v4, vs4, d4, ds4, p4, q4, rfl, rfl, rfl, h4, r4⟩ := trodAll_cons r3
  obtain ⟨v5, vs5, d5, ds5, p5, q5, rfl, rfl, rfl, h5, r5⟩ := trodAll_cons r4
  obtain ⟨rfl, rfl, rfl⟩ := trodAll_nil r5
  obtain rfl : args = #[v0, v1, v2, v3, v4, v5] := by cases args; simp_all
  obtain ⟨rfl, rfl⟩ := trodVars_none hV
  have k0 := h0
  have lt0 : ∀ x ∈ p0, x.block < W.heap.size := by obtain ⟨m, hm⟩ := k0; exact DataW.trod_lt m _ _ _ hm
  obtain ⟨c0, a0, cap0, rfl, w0, i0a, i0b, i0c, i0d, i0e⟩ := open_conf (hval 0 24 v0 rfl rfl) h0
  obtain ⟨a1, rfl, rfl, rfl, w1⟩ := open_int Tryz.underlying3 (hval 1 3 v1 rfl rfl) h1
  have k2 := h2
  have lt2 : ∀ x ∈ p2, x.block < W.heap.size := by obtain ⟨m, hm⟩ := k2; exact DataW.trod_lt m _ _ _ hm
  obtain ⟨a2, len2, cap2, rfl⟩ := okWide_slice Tryz.underlying68 (hval 2 68 v2 rfl rfl)
  obtain ⟨z2, e2, w2⟩ : ∃ bs : List Bool, len2 = bs.length ∧ RowBl W a2 bs := by
    obtain ⟨fuel, hf⟩ := h2
    rcases Go.Deep.open_bools Tryz.underlying68 Tryz.underlying4 (by kernel_rfl) hf with ⟨hcs, _⟩ | ⟨x, l, c, B, hcs, _, hl, hm, _, hcell⟩
    · simp [Value.cells] at hcs
      obtain ⟨rfl, rfl, rfl⟩ := hcs
      exact rowBl_nil W
    · simp [Value.cells] at hcs
      obtain ⟨rfl, rfl, rfl⟩ := hcs
      exact rowBl_of hl hm hcell
  subst e2
  have k3 := h3
  have lt3 : ∀ x ∈ p3, x.block < W.heap.size := by obtain ⟨m, hm⟩ := k3; exact DataW.trod_lt m _ _ _ hm
  obtain ⟨c3, a3, cap3, rfl, w3, i3a, i3b, i3c, i3d, i3e⟩ := open_frame (hval 3 32 v3 rfl rfl) h3
  have k4 := h4
  have lt4 : ∀ x ∈ p4, x.block < W.heap.size := by obtain ⟨m, hm⟩ := k4; exact DataW.trod_lt m _ _ _ hm
  obtain ⟨a4, len4, cap4, rfl⟩ := okWide_slice Tryz.underlying22 (hval 4 22 v4 rfl rfl)
  obtain ⟨z4, e4, w4⟩ : ∃ zs : List Int, len4 = zs.length ∧ Row W a4 zs := by
    obtain ⟨fuel, hf⟩ := h4
    rcases open_ints Tryz.underlying22 Tryz.underlying3 (by kernel_rfl) hf with ⟨hcs, _⟩ | ⟨x, l, c, zs, hcs, _, hl, hm, hz, _, hcell, hwz⟩
    · simp [Value.cells] at hcs
      obtain ⟨rfl, rfl, rfl⟩ := hcs
      exact row_nil W
    · simp [Value.cells] at hcs
      obtain ⟨rfl, rfl, rfl⟩ := hcs
      exact row_of hl hm (by rw [hz]; split <;> omega) hcell hwz
  subst e4
  obtain ⟨a5, rfl, rfl, rfl⟩ := open_bool Tryz.underlying4 (hval 5 4 v5 rfl rfl) h5
  clear hA0 hval0
  refine (spreadOff_walk c0 a0 cap0 a1 a2 z2 cap2 c3 a3 cap3 a4 z4 cap4 a5 W (of_laid hL) w0 i0a i0b i0c i0d i0e (wf_lo w1) (wf_hi w1) w2 w3 i3a i3b i3c i3d i3e w4).mono fun e W' ⟨he, bel⟩ => ?_
  subst he
  exact ⟨_, rfl, _, _, _, [], _, [], hW', trodAll_mk1 (shut_bool Tryz.underlying4 _), (trodAll_cons_mk (Below.trod laidOut (by kernel_rfl) (of_decide_eq_true (by kernel_rfl)) k0 bel lt0) (trodAll_cons_mk (shut_int Tryz.underlying3 w1) (trodAll_cons_mk (Below.trod laidOut (by kernel_rfl) (of_decide_eq_true (by kernel_rfl)) k2 bel lt2) (trodAll_cons_mk (Below.trod laidOut (by kernel_rfl) (of_decide_eq_true (by kernel_rfl)) k3 bel lt3) (trodAll_cons_mk (Below.trod laidOut (by kernel_rfl) (of_decide_eq_true (by kernel_rfl)) k4 bel lt4) (trodAll_cons_mk (shut_bool Tryz.underlying4 _) trodAll_mk0)))))), rfl, bel.frame _, fun h => by cases h⟩

theorem spreadOff_over : Rows.spreadOffRow.holds Tryz.pinned (OpenSpec.ofChange Rows.spreadOffSpec) :=
  OpenClaim.holds_of_wide 10 Tryz.f10 rfl rfl rfl rfl rfl rfl rfl ⟨rfl, rfl, rfl, rfl, rfl⟩ rfl rfl rfl rfl rfl (by kernel_rfl) Tryz.func10 (by kernel_rfl)
    (of_decide_eq_true (by kernel_rfl)) (by unfold Func.isWrapper; first | (rw [if_pos (by decide +kernel)]; kernel_rfl) | (rw [if_neg (by decide +kernel)]; exact ⟨rfl, rfl⟩))
    (fun os started H enc _ => spreadOff_lifted os started H enc)

theorem spreadOff_holds : Rows.SpreadOffCardSaid :=
  Claim7.holds_tied_plain_at .later [] [.wider] true (true, "a5d9b23e4875e2a8724f766127c8c96d56c0320895d1daccf55c75c2fb92346b") false
    spreadOff_over (fun _ h => by cases h) (by kernel_rfl) (fun _ h => by cases h) spreadOff_row_tie rfl ⟨rfl, rfl⟩ (by kernel_rfl) rfl
    (fun f fn hf hfn => by
      obtain rfl : f = 10 := Option.some.inj ((show Tryz.prog.funcNamed Tryz.f10.name = some 10 by kernel_rfl).symm.trans hf) |>.symm
      obtain rfl : fn = Tryz.f10 := (Option.some.inj (Tryz.func10.symm.trans hfn)).symm
      exact ⟨by kernel_rfl, fun j t ht => by
        rw [Tryz.params10] at ht
        have hm : t ∈ [24, 3, 68, 32, 22, 4] := by
          have := Array.mem_of_getElem? ht
          simpa using this
        have hall : ([24, 3, 68, 32, 22, 4].all fun u => !Tryz.prog.wantsStandIn u) = true := by kernel_rfl
        exact (show Tryz.prog.wantsStandIn t = false by simpa using List.all_eq_true.1 hall t hm)⟩)
    (by kernel_rfl)
#print axioms spreadOff_holds
end Go.Proofs.YthhmedlefahccaaGreatDoor

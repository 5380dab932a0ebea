/-
  ConfParts' walk.
-/
import Derived.Test.YtpbnpghdhjminaaDoorLaw31
import Derived.Test.YtpbnpghdhjminaaDoorConf3
namespace Go.Proofs.YtpbnpghdhjminaaDoor
open Go.RowKit Plait
set_option linter.unusedVariables false

/-- The loop over the nodes. -/
def NodesAt (g : Cf) (i : Value) : Prop := ∃ k : Nat, (k : Int) ≤ g.N ∧ i = .int .i64 k
/-- The loop over the voters, from the second on. -/
def RiseAt (n : Nat) (wg : World) (i : Value) (w' : World) : Prop := ∃ m : Nat, (m + 1 ≤ n ∨ m = 0) ∧ i = .int .i64 ((m : Int) + 1) ∧ Below wg.heap.size wg w'

set_option maxHeartbeats 6400000 in
theorem confParts_walk (c : Cf) (a : Option Addr) (cap : Nat) (sl : Int) (w : World) (hbd : Bnds w) (hrow : Row w a c.P) (iN : inI c.N) (iP : inI c.Pi) (iE : inI c.E) (iG : inI c.G) (iF : inI c.F) (r1 : -9223372036854775808 ≤ sl) (r2 : sl ≤ 9223372036854775807) :
    Calls Tryd.prog 5 #[.agg #[.int .i64 c.N, .int .i64 c.Pi, .int .i64 c.E, .int .i64 c.G, .int .i64 c.F, .slice a c.P.length cap], .int .i64 sl] w fun e w' => e = .returned (.bool true) ∧ Below w.heap.size w w' := by
  go_enter Tryd.func5, Tryd.ntmps5
  go_wp2_with fail
  refine (known3_any _ (hbd.later (alloc_below _ _))).mono ?_
  rintro e wn ⟨rfl, hb⟩
  obtain ⟨hB, hK, hZ⟩ := boxed hb
  have hQ := hK.at
  clear hb
  go_wp2_with fail
  refine (make_any c a cap _ (hrow.later hB)).mono ?_
  rintro e wn ⟨ga, gc, rfl, hrg, hfg, hb⟩
  clear hQ
  obtain ⟨hB, hK, hZ⟩ := boxed_on hB hK hb
  have hQ := hK.at
  clear hb
  clear hfg hQ
  have hok := makeC_ok c
  generalize makeC c = g at hok hrg ⊢
  have hBg : Below w.heap.size w (wn.alloc (.cells #[.int .i64 g.N, .int .i64 g.Pi, .int .i64 g.E, .int .i64 g.G, .int .i64 g.F, .slice ga g.P.length gc] 24)) := hB.alloc hB.size _
  have hKg : Blk (wn.alloc (.cells #[.int .i64 g.N, .int .i64 g.Pi, .int .i64 g.E, .int .i64 g.G, .int .i64 g.F, .slice ga g.P.length gc] 24)) wn.heap.size 24 (confBox g ga gc) := Blk.new wn _ _
  replace hrg := hrg.alloc (.cells #[.int .i64 g.N, .int .i64 g.Pi, .int .i64 g.E, .int .i64 g.G, .int .i64 g.F, .slice ga g.P.length gc] 24)
  have hbdg := (hbd.later hB).later (alloc_below wn (.cells #[.int .i64 g.N, .int .i64 g.Pi, .int .i64 g.E, .int .i64 g.G, .int .i64 g.F, .slice ga g.P.length gc] 24))
  go_wp2_with fail
  generalize wn.alloc (.cells #[.int .i64 g.N, .int .i64 g.Pi, .int .i64 g.E, .int .i64 g.G, .int .i64 g.F, .slice ga g.P.length gc] 24) = wg at hBg hKg hrg hbdg ⊢
  generalize wn.heap.size = gb at hKg ⊢
  clear hB hK hZ
  have hQg := hKg.at
  unfold confBox at hQg
  have n6 := hok.n6; have n12 := hok.n12; have p3 := hok.len
  go_wp2_with fail
  refine (rslots_any g ga gc _ hok).mono ?_
  rintro e wg ⟨rfl, hb⟩
  clear hQg
  replace hBg := hBg.trans (hb.mono hBg.size)
  replace hKg := hKg.later hb
  replace hrg := hrg.later hb
  have hQg := hKg.at
  unfold confBox at hQg
  clear hb
  have s0 : 0 < slotsI g := by unfold slotsI; omega
  have s1 : slotsI g ≤ 15 := by unfold slotsI; omega
  go_wp2_with fail
  refine (within3_any sl (slotsI g) _ s0 (by omega)).mono ?_
  rintro e wl ⟨rfl, rfl⟩
  have t0 : 0 ≤ sl % slotsI g := Int.emod_nonneg _ (by omega)
  have t1 : sl % slotsI g < g.N + g.P.length := by have := Int.emod_lt_of_pos sl s0; unfold slotsI at *; exact this
  generalize sl % slotsI g = s at *
  have hs : inI s := by unfold inI; omega
  clear hQg s0 s1
  go_wp2_with fail
  go_region_held3 (fun W => W.cell? ⟨gb, 0, none⟩ = some (.int .i64 g.N) ∧ W.cell? ⟨gb, 1, none⟩ = some (.int .i64 g.Pi) ∧ W.cell? ⟨gb, 2, none⟩ = some (.int .i64 g.E) ∧ W.cell? ⟨gb, 3, none⟩ = some (.int .i64 g.G) ∧ W.cell? ⟨gb, 4, none⟩ = some (.int .i64 g.F) ∧ W.cell? ⟨gb, 5, none⟩ = some (.slice ga g.P.length gc) ∧ Blk W gb 24 (confBox g ga gc) ∧ Row W ga g.P ∧ Below w.heap.size w W) (first | assumption | exact gs_mk hKg.drew1 hrg.drew1 hBg.drew | exact gs_next ‹_› hbm)
    (first
    | (go_at_call 16; refine (cowners_any g ga gc s _ hok hs (gs_out (w := w) (gb := gb) (g := g) (ga := ga) (gc := gc) ‹_›).2.1).mono ?_; rintro e wm ⟨ao, co, rfl, hro, hfo, hbm⟩)
    | (go_at_call 18; refine (cvoters_any g ga gc s _ hok hs (gs_out (w := w) (gb := gb) (g := g) (ga := ga) (gc := gc) ‹_›).2.1).mono ?_; rintro e wm ⟨av, cv, rfl, hrv, hfv, hbm⟩; replace hro := hro.later hbm))
  clear hKg hrg hBg
  obtain ⟨hKg, hrg, hBg⟩ := gs_out (w := w) (W := wm) (gb := gb) (g := g) (ga := ga) (gc := gc) ‹_›
  have hpl := parts_len g hok s
  have hol := owners_len g s
  have hvl : (voters g s).length ≤ 12 := by omega
  have d6 : (((owners g s).length : Int) + ((voters g s).length : Int) != g.N) = false := by rw [hpl]; simp
  clear hpl
  have hQg := hKg.at
  unfold confBox at hQg
  go_wp2_with fail
  go_loop [9] (fun i => NodesAt g i) (fun i => 12 - (intOf i).toNat)
  case atStart => exact ⟨0, by omega, rfl⟩
  case round =>
    obtain ⟨k, hk, rfl⟩ := hrel
    by_cases hlt : (k : Int) < g.N
    · have d1 : decide ((k : Int) < g.N) = true := by simpa using hlt
      have HI := Lib.hid (parts_in g s k hlt)
      cases hin : inB (owners g s) (k : Int)
      · rw [hin] at HI
        have HO := Lib.hid hin
        clear hin
        go_wp2_with fail
        refine (rin_any ao (owners g s) co (k : Int) _ hro).mono ?_
        rintro e wl ⟨rfl, rfl⟩
        rw [HO.out]
        go_wp2_with fail
        refine (rin_any av (voters g s) cv (k : Int) _ hrv).mono ?_
        rintro e wl ⟨rfl, rfl⟩
        rw [HI.out]
        go_wp2
        go_round
        case rel => exact ⟨k + 1, by omega, by go_num⟩
        case measure => simp [intOf]; omega
      · rw [hin] at HI
        have HO := Lib.hid hin
        clear hin
        go_wp2_with fail
        refine (rin_any ao (owners g s) co (k : Int) _ hro).mono ?_
        rintro e wl ⟨rfl, rfl⟩
        rw [HO.out]
        go_wp2_with fail
        refine (rin_any av (voters g s) cv (k : Int) _ hrv).mono ?_
        rintro e wl ⟨rfl, rfl⟩
        rw [HI.out]
        go_wp2
        go_round
        case rel => exact ⟨k + 1, by omega, by go_num⟩
        case measure => simp [intOf]; omega
    · have d1 : decide ((k : Int) < g.N) = false := by simpa using hlt
      go_wp2
      go_loopw [10] (fun i w' => RiseAt (voters g s).length wm i w') (fun i _ => 13 - (intOf i).toNat)
      case atStart => exact ⟨0, .inr rfl, rfl, Below.refl _ _⟩
      case round =>
        obtain ⟨m, hm, rfl, hb⟩ := hrel
        have hm12 : m ≤ 12 := by omega
        by_cases hlt2 : m + 1 < (voters g s).length
        · have d2 : decide ((m : Int) + 1 < ((voters g s).length : Int)) = true := by simp; omega
          obtain ⟨b1, o1, e1, hb1, hc1, _, _⟩ := (hrv.later hb).get m (by omega)
          obtain ⟨b2, o2, e2, hb2, hc2, _, _⟩ := (hrv.later hb).get (m + 1) hlt2
          rw [e1] at e2
          injection e2 with e2
          injection e2 with e3 e4
          subst e3 e4 e1
          have hst := voters_step g s m hlt2
          have d3 : decide ((voters g s)[m + 1] ≤ (voters g s)[m]) = false := by simp; omega
          generalize (voters g s)[m + 1] = y at *
          generalize (voters g s)[m]'(by omega) = x at *
          clear hst
          have q0 : (0 : Int) ≤ (m : Int) := by omega
          have q1 : (m : Int) < ((voters g s).length : Int) := by omega
          have q2 : (0 : Int) ≤ (m : Int) + 1 := by omega
          have q3 : (m : Int) + 1 < ((voters g s).length : Int) := by omega
          have q4 : ((m : Int) + 1).toNat = m + 1 := by omega
          have q5 : (m : Int) + 1 - 1 = (m : Int) := by omega
          go_wp2
          go_quiet (fail)
          go_wp2
          go_roundw
          case rel => exact ⟨m + 1, by omega, by go_num, below_drewN hb _⟩
          case measure => simp [intOf]; omega
        · have d2 : decide ((m : Int) + 1 < ((voters g s).length : Int)) = false := by simp; omega
          clear hQg
          have hKr := hKg.later hb
          have hrr := hrg.later hb
          have hor := hro.later hb
          have hBr := hBg.trans (hb.mono hBg.size)
          have hQg := hKr.at
          unfold confBox at hQg
          by_cases hsn : s < g.N
          · have d3 : decide (s < g.N) = true := by simpa using hsn
            have hO := owners_node g s ((nodeB_iff g s).2 (by omega))
            rw [hO] at hor ⊢
            clear hO hro
            obtain ⟨b, off, rfl, hbl, hcell, _, _⟩ := hor.get 0 (by simp)
            simp at hcell
            have d4 : (s == s) = true := by simp
            go_wp2
            go_ret
            exact ⟨rfl, hBr⟩
          · have d3 : decide (s < g.N) = false := by simpa using hsn
            obtain ⟨k', rfl⟩ : ∃ k' : Nat, s = g.N + (k' : Int) := ⟨(s - g.N).toNat, by omega⟩
            have hkl : k' < g.P.length := by omega
            have hp := pairAt_in g k' hkl
            have hall := hok.all _ (List.getElem_mem hkl)
            have hN := nodeB_no g (g.N + (k' : Int)) (by omega)
            obtain ⟨bp, op, rfl, hbp, hcp, hz1, hz2⟩ := hrr.get k' hkl
            have HF1 := Lib.hid (fun h => owners_none g (g.N + (k' : Int)) hN h)
            have HF2 := Lib.hid (fun h => owners_pair g (g.N + (k' : Int)) hN h)
            rw [hp] at HF1 HF2
            clear hp hN
            generalize g.P[k'] = z at *
            have q5 : g.N + (k' : Int) - g.N = (k' : Int) := by omega
            have q0 : (0 : Int) ≤ (k' : Int) := by omega
            have q1 : (k' : Int) < (g.P.length : Int) := by omega
            by_cases hz : z < 0
            · have hO := HF1.out (nodeB_no g z (by omega))
              rw [hO] at hor ⊢
              have d4 : (z == -1) = true := by simp; omega
              clear hO hro hz hall
              go_wp2
              go_quiet (fail)
              go_wp2
              go_ret
              exact ⟨rfl, below_drewN hBr _⟩
            · have hO := HF2.out ((nodeB_iff g z).2 (by omega))
              have m0 : 0 ≤ (z + 1) % g.N := Int.emod_nonneg _ (by omega)
              have m1 : (z + 1) % g.N < g.N := Int.emod_lt_of_pos _ (by omega)
              rw [hO] at hor ⊢
              clear hO hro
              obtain ⟨b, off, rfl, hbl, hcell, _, _⟩ := hor.get 0 (by simp)
              obtain ⟨b', off', e2, hbl', hcell', _, _⟩ := hor.get 1 (by simp)
              injection e2 with e2
              injection e2 with e3 e4
              subst e3 e4
              simp at hcell hcell'
              have d4 : (z == z) = true := by simp
              have d5 : ((z + 1) % g.N == (z + 1) % g.N) = true := by simp
              have z0 : 0 ≤ z := by omega
              have zN : z < g.N := by omega
              clear hz hall
              go_wp2
              go_quiet (fail)
              go_wp2
              go_ret
              exact ⟨rfl, below_drewN hBr _⟩

end Go.Proofs.YtpbnpghdhjminaaDoor

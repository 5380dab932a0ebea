/-
  Contracts of plaitingref3, second part: Check, a slot's owners, its voters.
-/
import Derived.Test.YtpbnpghdhjminaaDoorRef5
namespace Go.Proofs.YtpbnpghdhjminaaDoor
open Go.RowKit Plait
set_option linter.unusedVariables false

/-- The loop over the pairs. -/
def RPairsAt (bx : Array Value) (c : Cf) (w : World) (i : Value) (w' : World) : Prop :=
  ∃ k : Nat, k ≤ c.P.length ∧ i = .int .i64 k ∧ Below w.heap.size w w' ∧ Blk w' w.heap.size 24 bx ∧ ∀ z ∈ c.P.take k, pairB c z = true

set_option maxHeartbeats 800000 in
theorem rcheck_nums (c : Cf) (a : Option Addr) (cap : Nat) (w : World) (hn : numsB c = false) :
    Calls Tryd.prog 12 #[.agg #[.int .i64 c.N, .int .i64 c.Pi, .int .i64 c.E, .int .i64 c.G, .int .i64 c.F, .slice a c.P.length cap]] w fun e w' => e = .returned (.int .i64 1) ∧ Below w.heap.size w w' := by
  have hno : ¬ numsB c = true := by rw [hn]; simp
  rw [numsB_iff] at hno
  clear hn
  by_cases h0 : c.N < 6
  · have d0 : decide (c.N < 6) = true := by simpa using h0
    clear hno
    go_enter Tryd.func12, Tryd.ntmps12
    go_wp2
    go_ret
    exact ⟨rfl, alloc_below _ _⟩
  have d0 : decide (c.N < 6) = false := by simpa using h0
  by_cases h1 : 12 < c.N
  · have d1 : decide (12 < c.N) = true := by simpa using h1
    clear hno
    go_enter Tryd.func12, Tryd.ntmps12
    go_wp2
    go_ret
    exact ⟨rfl, alloc_below _ _⟩
  have d1 : decide (12 < c.N) = false := by simpa using h1
  by_cases h2 : c.E < 0
  · have d2 : decide (c.E < 0) = true := by simpa using h2
    clear hno
    go_enter Tryd.func12, Tryd.ntmps12
    go_wp2
    go_ret
    exact ⟨rfl, alloc_below _ _⟩
  have d2 : decide (c.E < 0) = false := by simpa using h2
  by_cases h3 : 100 < c.E
  · have d3 : decide (100 < c.E) = true := by simpa using h3
    clear hno
    go_enter Tryd.func12, Tryd.ntmps12
    go_wp2
    go_ret
    exact ⟨rfl, alloc_below _ _⟩
  have d3 : decide (100 < c.E) = false := by simpa using h3
  by_cases h4 : c.G < 0
  · have d4 : decide (c.G < 0) = true := by simpa using h4
    clear hno
    go_enter Tryd.func12, Tryd.ntmps12
    go_wp2
    go_ret
    exact ⟨rfl, alloc_below _ _⟩
  have d4 : decide (c.G < 0) = false := by simpa using h4
  by_cases h5 : 100 < c.G
  · have d5 : decide (100 < c.G) = true := by simpa using h5
    clear hno
    go_enter Tryd.func12, Tryd.ntmps12
    go_wp2
    go_ret
    exact ⟨rfl, alloc_below _ _⟩
  have d5 : decide (100 < c.G) = false := by simpa using h5
  by_cases h6 : c.Pi < 4 * (c.E + c.G + 1)
  · have d6 : decide (c.Pi < 4 * (c.E + c.G + 1)) = true := by simpa using h6
    clear hno
    go_enter Tryd.func12, Tryd.ntmps12
    go_wp2
    go_ret
    exact ⟨rfl, alloc_below _ _⟩
  have d6 : decide (c.Pi < 4 * (c.E + c.G + 1)) = false := by simpa using h6
  by_cases h7 : 10000 < c.Pi
  · have d7 : decide (10000 < c.Pi) = true := by simpa using h7
    clear hno
    go_enter Tryd.func12, Tryd.ntmps12
    go_wp2
    go_ret
    exact ⟨rfl, alloc_below _ _⟩
  have d7 : decide (10000 < c.Pi) = false := by simpa using h7
  by_cases h8 : c.F < 0
  · have d8 : decide (c.F < 0) = true := by simpa using h8
    clear hno
    go_enter Tryd.func12, Tryd.ntmps12
    go_wp2
    go_ret
    exact ⟨rfl, alloc_below _ _⟩
  have d8 : decide (c.F < 0) = false := by simpa using h8
  by_cases h9 : 65536 ≤ c.F
  · have d9 : decide (65536 ≤ c.F) = true := by simpa using h9
    clear hno
    go_enter Tryd.func12, Tryd.ntmps12
    go_wp2
    go_ret
    exact ⟨rfl, alloc_below _ _⟩
  have d9 : decide (65536 ≤ c.F) = false := by simpa using h9
  exact absurd ⟨by omega, by omega, by omega, by omega, by omega, by omega, by omega, by omega, by omega, by omega⟩ hno

set_option maxHeartbeats 1600000 in
theorem rcheck_any (c : Cf) (a : Option Addr) (cap : Nat) (w : World) (hrow : Row w a c.P) :
    Calls Tryd.prog 12 #[.agg #[.int .i64 c.N, .int .i64 c.Pi, .int .i64 c.E, .int .i64 c.G, .int .i64 c.F, .slice a c.P.length cap]] w fun e w' => e = .returned (.int .i64 (checkI c)) ∧ Below w.heap.size w w' := by
  have hlen := hrow.1
  cases hn : numsB c
  · rw [checkI_nums c hn]
    exact rcheck_nums c a cap w hn
  · obtain ⟨n6, n12, e0, e1, g0, g1, f0, f1, p0, p1⟩ := (numsB_iff c).1 hn
    have d0 : decide (c.N < 6) = false := by simpa using n6
    have d1 : decide (12 < c.N) = false := by simpa using n12
    have d2 : decide (c.E < 0) = false := by simpa using e0
    have d3 : decide (100 < c.E) = false := by simpa using e1
    have d4 : decide (c.G < 0) = false := by simpa using g0
    have d5 : decide (100 < c.G) = false := by simpa using g1
    have d6 : decide (c.Pi < 4 * (c.E + c.G + 1)) = false := by simpa using p0
    have d7 : decide (10000 < c.Pi) = false := by simpa using p1
    have d8 : decide (c.F < 0) = false := by simpa using f0
    have d9 : decide (65536 ≤ c.F) = false := by simp; omega
    by_cases hl : 3 < c.P.length
    · have HF := Lib.hid (checkI_long c hn hl)
      have d : decide ((3 : Int) < (c.P.length : Int)) = true := by simp; omega
      clear hn
      go_enter Tryd.func12, Tryd.ntmps12
      go_wp2
      go_ret
      exact ⟨ret_int HF.out.symm, alloc_below _ _⟩
    · have HF := Lib.hid (checkI_pairs c hn (by omega))
      have d : decide ((3 : Int) < (c.P.length : Int)) = false := by simp; omega
      clear hn
      go_enter Tryd.func12, Tryd.ntmps12
      go_wp2
      clear d0 d1 d2 d3 d4 d5 d6 d7 d8 d9 d
      go_loopw [3] (fun i w' => RPairsAt (confBox c a cap) c w i w') (fun i _ => c.P.length - (intOf i).toNat)
      case atStart => exact ⟨0, Nat.zero_le _, rfl, alloc_below _ _, Blk.new _ _ _, by simp⟩
      case round =>
        obtain ⟨k, hk, rfl, hB, hK, ha⟩ := hrel
        have HA := Lib.hid ha
        clear ha
        have hQ := hK.at
        unfold confBox at hQ
        by_cases hlt : k < c.P.length
        · have d1 : decide (k < c.P.length) = true := by simpa using hlt
          have HT := Lib.hid (show c.P.take (k + 1) = c.P.take k ++ [c.P[k]] from List.take_succ_eq_append_getElem hlt)
          obtain ⟨b, off, rfl, hbl, hcell, hz1, hz2⟩ := (hrow.later hB).get k hlt
          have HNo := Lib.hid (pairsB_no c k hlt)
          generalize c.P[k] = z at *
          have g0 : (0 : Int) ≤ (k : Int) := by omega
          have g1 : (k : Int) < (c.P.length : Int) := by omega
          by_cases hza : z < -1
          · have d2 : decide (z < -1) = true := by simpa using hza
            have HP := Lib.hid (HNo.out (by simp [pairB]; omega))
            go_wp2
            go_quiet (fail)
            go_wp2
            go_ret
            exact ⟨ret_int (by rw [HF.out, HP.out]; rfl), below_drewN hB _⟩
          · have d2 : decide (z < -1) = false := by simpa using hza
            by_cases hzb : c.N ≤ z
            · have d3 : decide (c.N ≤ z) = true := by simpa using hzb
              have HP := Lib.hid (HNo.out (by simp [pairB]; omega))
              go_wp2
              go_quiet (fail)
              go_wp2
              go_ret
              exact ⟨ret_int (by rw [HF.out, HP.out]; rfl), below_drewN hB _⟩
            · have d3 : decide (c.N ≤ z) = false := by simpa using hzb
              have HP := Lib.hid (show pairB c z = true by simp [pairB]; omega)
              go_wp2
              go_quiet (fail)
              go_wp2
              go_roundw
              case rel =>
                refine ⟨k + 1, by omega, by go_num, below_drewN hB _, hK.drewN _, ?_⟩
                rw [HT.out]
                intro y hy
                rcases List.mem_append.1 hy with hy | hy
                · exact HA.out y hy
                · simp at hy; rw [hy]; exact HP.out
              case measure => simp [intOf]; omega
        · have d1 : decide (k < c.P.length) = false := by simpa using hlt
          have HP := Lib.hid (pairsB_yes c k hlt HA.out)
          go_wp2
          go_ret
          exact ⟨ret_int (by rw [HF.out, HP.out]; rfl), hB⟩

theorem pairAt_neg (c : Cf) (s : Int) (h : s < 0 ∨ c.N + c.P.length ≤ s) (hn : 0 ≤ c.N) : pairAt c s = -1 := by
  unfold pairAt; rw [if_neg (by omega)]

set_option maxHeartbeats 1600000 in
theorem rowners_any (c : Cf) (a : Option Addr) (cap : Nat) (s : Int) (w : World) (hc : c.Ok) (hs : inI s) (hrow : Row w a c.P) :
    Calls Tryd.prog 17 #[.agg #[.int .i64 c.N, .int .i64 c.Pi, .int .i64 c.E, .int .i64 c.G, .int .i64 c.F, .slice a c.P.length cap], .int .i64 s] w (RowRet (owners c s) w) := by
  have h1 := hc.n6; have h2 := hc.n12; have h3 := hc.len
  have HS := Lib.hid (show slotsI c = c.N + (c.P.length : Int) from rfl)
  by_cases hneg : s < 0
  · have HF := Lib.hid (owners_none c s (nodeB_no c s (by omega)) (by rw [pairAt_neg c s (by omega) (by omega)]; exact nodeB_no _ _ (by omega)))
    have d0 : decide (s < 0) = true := by simpa using hneg
    go_enter Tryd.func17, Tryd.ntmps17
    go_wp2
    go_ret
    exact ⟨none, 0, by rw [HF.out]; rfl, by rw [HF.out]; exact Row.empty _ _, (fun x h => by cases h), alloc_below _ _⟩
  · have d0 : decide (s < 0) = false := by simpa using hneg
    by_cases hbig : c.N + (c.P.length : Int) ≤ s
    · have HF := Lib.hid (owners_none c s (nodeB_no c s (by omega)) (by rw [pairAt_neg c s (by omega) (by omega)]; exact nodeB_no _ _ (by omega)))
      have d1 : decide (c.N + (c.P.length : Int) ≤ s) = true := by simpa using hbig
      go_enter Tryd.func17, Tryd.ntmps17
      go_wp2_with fail
      refine (rslots_any c a cap _ hc).mono ?_
      rintro e wn ⟨rfl, hb⟩
      obtain ⟨hB, hK, hZ⟩ := boxed hb
      have hQ := hK.at
      clear hb
      rw [HS.out]
      go_wp2
      go_ret
      exact ⟨none, 0, by rw [HF.out]; rfl, by rw [HF.out]; exact Row.empty _ _, (fun x h => by cases h), hB⟩
    · have d1 : decide (c.N + (c.P.length : Int) ≤ s) = false := by simpa using hbig
      by_cases hnode : s < c.N
      · have HF := Lib.hid (owners_node c s ((nodeB_iff c s).2 (by omega)))
        have d2 : decide (s < c.N) = true := by simpa using hnode
        go_enter Tryd.func17, Tryd.ntmps17
        go_wp2_with fail
        refine (rslots_any c a cap _ hc).mono ?_
        rintro e wn ⟨rfl, hb⟩
        obtain ⟨hB, hK, hZ⟩ := boxed hb
        have hQ := hK.at
        clear hb
        rw [HS.out]
        go_wp2
        go_ret
        refine ⟨_, _, by rw [HF.out]; rfl, ?_, (fun x h => by injection h with h; rw [← h]; exact Nat.le_of_lt hZ), hB.alloc hB.size _⟩
        rw [HF.out]
        exact Row.made wn [s] _ (by simp) (by simp; exact hs)
      · have d2 : decide (s < c.N) = false := by simpa using hnode
        obtain ⟨k, rfl⟩ : ∃ k : Nat, s = c.N + (k : Int) := ⟨(s - c.N).toNat, by omega⟩
        have hlt : k < c.P.length := by omega
        have hr : c.N + (k : Int) - c.N = (k : Int) := by omega
        have hp := pairAt_in c k hlt
        have hall := hc.all _ (List.getElem_mem hlt)
        have HN := Lib.hid (nodeB_no c (c.N + (k : Int)) (by omega))
        obtain ⟨b, off, rfl, hbl, hcell, hz1, hz2⟩ := hrow.get k hlt
        have HF1 := Lib.hid (fun h => owners_none c (c.N + (k : Int)) HN.out h)
        have HF2 := Lib.hid (fun h => owners_pair c (c.N + (k : Int)) HN.out h)
        rw [hp] at HF1 HF2
        clear hp
        generalize c.P[k] = z at *
        have g0 : (0 : Int) ≤ (k : Int) := by omega
        have g1 : (k : Int) < (c.P.length : Int) := by omega
        by_cases hz : z < 0
        · have d3 : decide (z < 0) = true := by simpa using hz
          have HF := Lib.hid (HF1.out (nodeB_no c z (by omega)))
          clear hneg hbig hnode
          go_enter Tryd.func17, Tryd.ntmps17
          go_wp2_with fail
          refine (rslots_any c _ cap _ hc).mono ?_
          rintro e wn ⟨rfl, hb⟩
          obtain ⟨hB, hK, hZ⟩ := boxed hb
          have hQ := hK.at
          clear hb
          rw [HS.out]
          have hcn : wn.cell? ⟨b, off + k, none⟩ = some (.int .i64 z) := by rw [hB.cell (p := ⟨b, off + k, none⟩) hbl]; exact hcell
          go_wp2
          go_ret
          exact ⟨none, 0, by rw [HF.out]; rfl, by rw [HF.out]; exact Row.empty _ _, (fun x h => by cases h), hB⟩
        · have d3 : decide (z < 0) = false := by simpa using hz
          have HF := Lib.hid (HF2.out ((nodeB_iff c z).2 (by omega)))
          have m1 : 0 ≤ (z + 1) % c.N := Int.emod_nonneg _ (by omega)
          have m2 : (z + 1) % c.N < c.N := Int.emod_lt_of_pos _ (by omega)
          clear hneg hbig hnode
          go_enter Tryd.func17, Tryd.ntmps17
          go_wp2_with fail
          refine (rslots_any c _ cap _ hc).mono ?_
          rintro e wn ⟨rfl, hb⟩
          obtain ⟨hB, hK, hZ⟩ := boxed hb
          have hQ := hK.at
          clear hb
          rw [HS.out]
          have hcn : wn.cell? ⟨b, off + k, none⟩ = some (.int .i64 z) := by rw [hB.cell (p := ⟨b, off + k, none⟩) hbl]; exact hcell
          go_wp2
          go_ret
          refine ⟨_, _, by rw [HF.out]; rfl, ?_, (fun x h => by injection h with h; rw [← h]; exact Nat.le_of_lt hZ), hB.alloc hB.size _⟩
          rw [HF.out]
          exact Row.made wn [z, (z + 1) % c.N] _ (by simp) (by simp; omega)

end Go.Proofs.YtpbnpghdhjminaaDoor

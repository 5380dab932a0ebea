/-
  Contracts of package conf, third part: Check. It reads the table of bounds, a variable of the package.
-/
import Derived.Test.YtpbnpghdhjminaaDoorDev4
namespace Go.Proofs.YtpbnpghdhjminaaDoor
open Go.RowKit Plait
set_option linter.unusedVariables false

/-- The table of bounds lies in memory as the package laid it. -/
def Bnds (w : World) : Prop := ∀ i, i < 8 → w.cell? ⟨0, i, none⟩ = some (.int .i64 ([6, 12, 0, 100, 0, 100, 0, 65535].getD i 0))

theorem block_lt {w : World} {b o : Nat} {v : Value} (h : w.cell? ⟨b, o, none⟩ = some v) : b < w.heap.size := by
  rcases Nat.lt_or_ge b w.heap.size with h' | h'
  · exact h'
  · unfold World.cell? at h
    rw [show w.heap[(⟨b, o, none⟩ : Addr).block]? = none from Array.getElem?_eq_none h'] at h
    simp at h

theorem Bnds.lt {w : World} (h : Bnds w) : 0 < w.heap.size := block_lt (h 0 (by omega))
theorem Bnds.later {w w' : World} (h : Bnds w) (hb : Below w.heap.size w w') : Bnds w' := fun i hi => by rw [hb.cell (p := ⟨0, i, none⟩) h.lt]; exact h i hi

theorem choldsS_any (lo hi n : Int) (w : World) :
    Calls Tryd.prog 34 #[.agg #[.int .i64 lo, .int .i64 hi], .int .i64 n] w fun e w' => e = .returned (.bool (decide (lo ≤ n) && decide (n ≤ hi))) ∧ Below w.heap.size w w' := by
  by_cases h : lo ≤ n
  · have hd : decide (lo ≤ n) = true := by simpa using h
    go_enter Tryd.func34, Tryd.ntmps34
    go_wp2
    go_ret
    exact ⟨ret_bool (by simp [hd]), alloc_below _ _⟩
  · have hd : decide (lo ≤ n) = false := by simpa using h
    go_enter Tryd.func34, Tryd.ntmps34
    go_wp2
    go_ret
    exact ⟨ret_bool (by simp), alloc_below _ _⟩

/-- An array's element, by value. -/
theorem idx4 (v0 v1 v2 v3 : Int) (W : World) : (Instr.index 42 (.agg #[.int .i64 v0, .int .i64 v1, .int .i64 v2, .int .i64 v3]) (.int .i64 0)).run Tryd.prog W = .ok (.int .i64 v0) W
    ∧ (Instr.index 42 (.agg #[.int .i64 v0, .int .i64 v1, .int .i64 v2, .int .i64 v3]) (.int .i64 1)).run Tryd.prog W = .ok (.int .i64 v1) W
    ∧ (Instr.index 42 (.agg #[.int .i64 v0, .int .i64 v1, .int .i64 v2, .int .i64 v3]) (.int .i64 2)).run Tryd.prog W = .ok (.int .i64 v2) W
    ∧ (Instr.index 42 (.agg #[.int .i64 v0, .int .i64 v1, .int .i64 v2, .int .i64 v3]) (.int .i64 3)).run Tryd.prog W = .ok (.int .i64 v3) W := by
  refine ⟨?_, ?_, ?_, ?_⟩ <;> rfl

/-- The loop over the numbers and their bounds. -/
def NumsAt (bx : Array Value) (c : Cf) (w : World) (i : Value) (w' : World) : Prop :=
  ∃ k : Nat, k ≤ 4 ∧ i = .int .i64 k ∧ Below w.heap.size w w' ∧ Blk w' w.heap.size 24 bx ∧ ((0 < k → 6 ≤ c.N ∧ c.N ≤ 12) ∧ (1 < k → 0 ≤ c.E ∧ c.E ≤ 100) ∧ (2 < k → 0 ≤ c.G ∧ c.G ≤ 100) ∧ (3 < k → 0 ≤ c.F ∧ c.F ≤ 65535))

set_option maxHeartbeats 1600000 in
theorem cnums_any (c : Cf) (a : Option Addr) (cap : Nat) (w : World) (hbd : Bnds w) :
    Calls Tryd.prog 30 #[.agg #[.int .i64 c.N, .int .i64 c.Pi, .int .i64 c.E, .int .i64 c.G, .int .i64 c.F, .slice a c.P.length cap]] w fun e w' => e = .returned (.bool (numsB c)) ∧ Below w.heap.size w w' := by
  have HI := Lib.hid (numsB_iff c)
  have HN := Lib.hid (numsB_not c)
  go_enter Tryd.func30, Tryd.ntmps30
  go_wp2
  go_loopw [14] (fun i w' => NumsAt (confBox c a cap) c w i w') (fun i _ => 4 - (intOf i).toNat)
  case atStart => exact ⟨0, by omega, rfl, alloc_below _ _, Blk.new _ _ _, by omega, by omega, by omega, by omega⟩
  case round =>
    obtain ⟨k, hk, rfl, hB, hK, ha⟩ := hrel
    have hbr := hbd.later hB
    have HA := Lib.hid ha
    clear ha
    rcases (by omega : k = 0 ∨ k = 1 ∨ k = 2 ∨ k = 3 ∨ k = 4) with rfl | rfl | rfl | rfl | rfl
    · have g0 := hbr 0 (by omega)
      have g1 := hbr 1 (by omega)
      simp at g0 g1
      have hix := (idx4 c.N c.E c.G c.F wr).1
      by_cases hh : 6 ≤ c.N ∧ c.N ≤ 12
      · have hd : (decide (6 ≤ c.N) && decide (c.N ≤ 12)) = true := by simpa using hh
        have HH := Lib.hid hh
        clear hh
        go_wp2_with fail
        refine (choldsS_any 6 12 c.N _).mono ?_
        rintro e wn ⟨rfl, hb⟩
        rw [hd]
        go_wp2
        go_roundw
        case rel =>
          have h1 := HA.out
          have h2 := HH.out
          exact ⟨1, by omega, by go_num, hB.trans (hb.mono hB.size), hK.later hb, by omega, by omega, by omega, by omega⟩
        case measure => simp [intOf]
      · have hd : (decide (6 ≤ c.N) && decide (c.N ≤ 12)) = false := by
          rw [Bool.eq_false_iff]; simpa using hh
        have HF := Lib.hid (HN.out (fun h => hh (by omega)))
        clear hh
        go_wp2_with fail
        refine (choldsS_any 6 12 c.N _).mono ?_
        rintro e wn ⟨rfl, hb⟩
        rw [hd]
        go_wp2
        go_ret
        exact ⟨ret_bool HF.out.symm, hB.trans (hb.mono hB.size)⟩
    · have g0 := hbr 2 (by omega)
      have g1 := hbr 3 (by omega)
      simp at g0 g1
      have hix := (idx4 c.N c.E c.G c.F wr).2.1
      by_cases hh : 0 ≤ c.E ∧ c.E ≤ 100
      · have hd : (decide (0 ≤ c.E) && decide (c.E ≤ 100)) = true := by simpa using hh
        have HH := Lib.hid hh
        clear hh
        go_wp2_with fail
        refine (choldsS_any 0 100 c.E _).mono ?_
        rintro e wn ⟨rfl, hb⟩
        rw [hd]
        go_wp2
        go_roundw
        case rel =>
          have h1 := HA.out
          have h2 := HH.out
          exact ⟨2, by omega, by go_num, hB.trans (hb.mono hB.size), hK.later hb, by omega, by omega, by omega, by omega⟩
        case measure => simp [intOf]
      · have hd : (decide (0 ≤ c.E) && decide (c.E ≤ 100)) = false := by
          rw [Bool.eq_false_iff]; simpa using hh
        have HF := Lib.hid (HN.out (fun h => hh (by omega)))
        clear hh
        go_wp2_with fail
        refine (choldsS_any 0 100 c.E _).mono ?_
        rintro e wn ⟨rfl, hb⟩
        rw [hd]
        go_wp2
        go_ret
        exact ⟨ret_bool HF.out.symm, hB.trans (hb.mono hB.size)⟩
    · have g0 := hbr 4 (by omega)
      have g1 := hbr 5 (by omega)
      simp at g0 g1
      have hix := (idx4 c.N c.E c.G c.F wr).2.2.1
      by_cases hh : 0 ≤ c.G ∧ c.G ≤ 100
      · have hd : (decide (0 ≤ c.G) && decide (c.G ≤ 100)) = true := by simpa using hh
        have HH := Lib.hid hh
        clear hh
        go_wp2_with fail
        refine (choldsS_any 0 100 c.G _).mono ?_
        rintro e wn ⟨rfl, hb⟩
        rw [hd]
        go_wp2
        go_roundw
        case rel =>
          have h1 := HA.out
          have h2 := HH.out
          exact ⟨3, by omega, by go_num, hB.trans (hb.mono hB.size), hK.later hb, by omega, by omega, by omega, by omega⟩
        case measure => simp [intOf]
      · have hd : (decide (0 ≤ c.G) && decide (c.G ≤ 100)) = false := by
          rw [Bool.eq_false_iff]; simpa using hh
        have HF := Lib.hid (HN.out (fun h => hh (by omega)))
        clear hh
        go_wp2_with fail
        refine (choldsS_any 0 100 c.G _).mono ?_
        rintro e wn ⟨rfl, hb⟩
        rw [hd]
        go_wp2
        go_ret
        exact ⟨ret_bool HF.out.symm, hB.trans (hb.mono hB.size)⟩
    · have g0 := hbr 6 (by omega)
      have g1 := hbr 7 (by omega)
      simp at g0 g1
      have hix := (idx4 c.N c.E c.G c.F wr).2.2.2
      by_cases hh : 0 ≤ c.F ∧ c.F ≤ 65535
      · have hd : (decide (0 ≤ c.F) && decide (c.F ≤ 65535)) = true := by simpa using hh
        have HH := Lib.hid hh
        clear hh
        go_wp2_with fail
        refine (choldsS_any 0 65535 c.F _).mono ?_
        rintro e wn ⟨rfl, hb⟩
        rw [hd]
        go_wp2
        go_roundw
        case rel =>
          have h1 := HA.out
          have h2 := HH.out
          exact ⟨4, by omega, by go_num, hB.trans (hb.mono hB.size), hK.later hb, by omega, by omega, by omega, by omega⟩
        case measure => simp [intOf]
      · have hd : (decide (0 ≤ c.F) && decide (c.F ≤ 65535)) = false := by
          rw [Bool.eq_false_iff]; simpa using hh
        have HF := Lib.hid (HN.out (fun h => hh (by omega)))
        clear hh
        go_wp2_with fail
        refine (choldsS_any 0 65535 c.F _).mono ?_
        rintro e wn ⟨rfl, hb⟩
        rw [hd]
        go_wp2
        go_ret
        exact ⟨ret_bool HF.out.symm, hB.trans (hb.mono hB.size)⟩
    · obtain ⟨a0, a1, a2, a3⟩ := HA.out
      have b0 := a0 (by omega)
      have b1 := a1 (by omega)
      have b2 := a2 (by omega)
      have b3 := a3 (by omega)
      clear a0 a1 a2 a3
      obtain ⟨b1a, b1b⟩ := b1
      obtain ⟨b2a, b2b⟩ := b2
      have HF := Lib.hid (show (decide (4 * (c.E + c.G + 1) ≤ c.Pi) && decide (c.Pi ≤ 10000)) = numsB c by
        rw [Bool.eq_iff_iff, HI.out]; simp; omega)
      clear b0 b3
      have hQ := hK.at
      unfold confBox at hQ
      go_wp2_with fail
      refine (choldsS_any (4 * (c.E + c.G + 1)) 10000 c.Pi _).mono ?_
      rintro e wn ⟨rfl, hb⟩
      go_wp2
      go_ret
      exact ⟨ret_bool HF.out, hB.trans (hb.mono hB.size)⟩

/-- The loop over the pairs. -/
def PairsAt (bx : Array Value) (c : Cf) (w : World) (i : Value) (w' : World) : Prop :=
  ∃ k : Nat, k ≤ c.P.length ∧ i = .int .i64 k ∧ Below w.heap.size w w' ∧ Blk w' w.heap.size 24 bx ∧ ∀ z ∈ c.P.take k, pairB c z = true

set_option maxHeartbeats 1600000 in
theorem cpairs_any (c : Cf) (a : Option Addr) (cap : Nat) (w : World) (hn : 0 ≤ c.N) (hrow : Row w a c.P) :
    Calls Tryd.prog 31 #[.agg #[.int .i64 c.N, .int .i64 c.Pi, .int .i64 c.E, .int .i64 c.G, .int .i64 c.F, .slice a c.P.length cap]] w fun e w' => e = .returned (.bool (pairsB c)) ∧ Below w.heap.size w w' := by
  have hlen := hrow.1
  go_enter Tryd.func31, Tryd.ntmps31
  go_wp2
  go_loopw [8] (fun i w' => PairsAt (confBox c a cap) c w i w') (fun i _ => c.P.length - (intOf i).toNat)
  case atStart => exact ⟨0, Nat.zero_le _, rfl, alloc_below _ _, Blk.new _ _ _, by simp⟩
  case round =>
    obtain ⟨k, hk, rfl, hB, hK, ha⟩ := hrel
    have HA := Lib.hid ha
    clear ha
    by_cases hlt : k < c.P.length
    · have d1 : decide (k < c.P.length) = true := by simpa using hlt
      have HT := Lib.hid (show c.P.take (k + 1) = c.P.take k ++ [c.P[k]] from List.take_succ_eq_append_getElem hlt)
      obtain ⟨b, off, rfl, hbl, hcell, hz1, hz2⟩ := (hrow.later hB).get k hlt
      have hQ := hK.at
      unfold confBox at hQ
      have HNo := Lib.hid (pairsB_no c k hlt)
      generalize c.P[k] = z at *
      by_cases hz : z = -1
      · have d2 : (z != -1) = false := by simp [hz]
        have HP := Lib.hid (show pairB c z = true by rw [hz]; simp [pairB]; omega)
        clear hz
        go_wp2
        go_roundw
        case rel =>
          refine ⟨k + 1, by omega, by go_num, hB, hK, ?_⟩
          rw [HT.out]
          intro y hy
          rcases List.mem_append.1 hy with hy | hy
          · exact HA.out y hy
          · simp at hy; rw [hy]; exact HP.out
        case measure => simp [intOf]; omega
      · have d2 : (z != -1) = true := by simp [hz]
        have HE := Lib.hid (pairB_node c z hz)
        clear hz
        cases hnd : nodeB c z
        · have HD := Lib.hid hnd
          have HF := Lib.hid (HNo.out (by rw [HE.out]; exact hnd))
          clear hnd
          go_wp2_with fail
          refine (cisNode_any c _ cap z _).mono ?_
          rintro e wn ⟨rfl, hb⟩
          clear hQ
          obtain ⟨hB, hK, hZ⟩ := boxed_on hB hK hb
          have hQ := hK.at
          clear hb
          rw [HD.out]
          go_wp2
          go_ret
          exact ⟨ret_bool HF.out.symm, hB⟩
        · have HD := Lib.hid hnd
          clear hnd
          go_wp2_with fail
          refine (cisNode_any c _ cap z _).mono ?_
          rintro e wn ⟨rfl, hb⟩
          clear hQ
          obtain ⟨hB, hK, hZ⟩ := boxed_on hB hK hb
          have hQ := hK.at
          clear hb
          rw [HD.out]
          go_wp2
          go_roundw
          case rel =>
            refine ⟨k + 1, by omega, by go_num, hB, hK, ?_⟩
            rw [HT.out]
            intro y hy
            rcases List.mem_append.1 hy with hy | hy
            · exact HA.out y hy
            · simp at hy; rw [hy, HE.out]; exact HD.out
          case measure => simp [intOf]; omega
    · have d1 : decide (k < c.P.length) = false := by simpa using hlt
      have HF := Lib.hid (pairsB_yes c k hlt HA.out)
      go_wp2
      go_ret
      exact ⟨ret_bool HF.out.symm, hB⟩

set_option maxHeartbeats 800000 in
theorem ccheck_any (c : Cf) (a : Option Addr) (cap : Nat) (w : World) (hbd : Bnds w) (hrow : Row w a c.P) :
    Calls Tryd.prog 11 #[.agg #[.int .i64 c.N, .int .i64 c.Pi, .int .i64 c.E, .int .i64 c.G, .int .i64 c.F, .slice a c.P.length cap]] w fun e w' => e = .returned (.int .i64 (checkI c)) ∧ Below w.heap.size w w' := by
  have hlen := hrow.1
  cases hn : numsB c
  · have HF := Lib.hid (checkI_nums c hn)
    have HN := Lib.hid hn
    clear hn
    go_enter Tryd.func11, Tryd.ntmps11
    go_wp2_with fail
    refine (cnums_any c a cap _ (hbd.later (alloc_below _ _))).mono ?_
    rintro e wn ⟨rfl, hb⟩
    obtain ⟨hB, hK, hZ⟩ := boxed hb
    have hQ := hK.at
    clear hb
    rw [HN.out]
    go_wp2
    go_ret
    exact ⟨ret_int HF.out.symm, hB⟩
  · have hb := (numsB_iff c).1 hn
    have hN : 0 ≤ c.N := by omega
    have HN := Lib.hid hn
    clear hb
    by_cases hl : 3 < c.P.length
    · have HF := Lib.hid (checkI_long c hn hl)
      have d : decide ((3 : Int) < (c.P.length : Int)) = true := by simp; omega
      clear hn
      go_enter Tryd.func11, Tryd.ntmps11
      go_wp2_with fail
      refine (cnums_any c a cap _ (hbd.later (alloc_below _ _))).mono ?_
      rintro e wn ⟨rfl, hb⟩
      obtain ⟨hB, hK, hZ⟩ := boxed hb
      have hQ := hK.at
      clear hb
      rw [HN.out]
      go_wp2
      go_ret
      exact ⟨ret_int HF.out.symm, hB⟩
    · have HF := Lib.hid (checkI_pairs c hn (by omega))
      have d : decide ((3 : Int) < (c.P.length : Int)) = false := by simp; omega
      clear hn
      cases hp : pairsB c
      · have HP := Lib.hid hp
        clear hp
        go_enter Tryd.func11, Tryd.ntmps11
        go_wp2_with fail
        refine (cnums_any c a cap _ (hbd.later (alloc_below _ _))).mono ?_
        rintro e wn ⟨rfl, hb⟩
        obtain ⟨hB, hK, hZ⟩ := boxed hb
        have hQ := hK.at
        clear hb
        rw [HN.out]
        go_wp2_with fail
        refine (cpairs_any c a cap _ hN (hrow.later hB)).mono ?_
        rintro e wn ⟨rfl, hb⟩
        clear hQ
        obtain ⟨hB, hK, hZ⟩ := boxed_on hB hK hb
        have hQ := hK.at
        clear hb
        rw [HP.out]
        go_wp2
        go_ret
        exact ⟨ret_int (by rw [HF.out, HP.out]; rfl), hB⟩
      · have HP := Lib.hid hp
        clear hp
        go_enter Tryd.func11, Tryd.ntmps11
        go_wp2_with fail
        refine (cnums_any c a cap _ (hbd.later (alloc_below _ _))).mono ?_
        rintro e wn ⟨rfl, hb⟩
        obtain ⟨hB, hK, hZ⟩ := boxed hb
        have hQ := hK.at
        clear hb
        rw [HN.out]
        go_wp2_with fail
        refine (cpairs_any c a cap _ hN (hrow.later hB)).mono ?_
        rintro e wn ⟨rfl, hb⟩
        clear hQ
        obtain ⟨hB, hK, hZ⟩ := boxed_on hB hK hb
        have hQ := hK.at
        clear hb
        rw [HP.out]
        go_wp2
        go_ret
        exact ⟨ret_int (by rw [HF.out, HP.out]; rfl), hB⟩

end Go.Proofs.YtpbnpghdhjminaaDoor

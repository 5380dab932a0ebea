/-
  Contracts of package conf, third part: Check. It reads the table of bounds, a variable of the package.
-/
import Derived.Test.YthhmedlefahccaaGreatDoorK9
import Derived.LaidMore
import Derived.Stop.Joined
import Derived.Lib.SmallJoins
import Derived.SevenTiedAt
import Derived.Test.YthhmedlefahccaaGreatDoorK1
import Derived.Test.YthhmedlefahccaaGreatDoorK8
import Derived.Test.YthhmedlefahccaaGreatDoorK5
import Derived.Test.YthhmedlefahccaaGreatDoorK2
namespace Go.Proofs.YthhmedlefahccaaGreatDoor
open Go.RowKit Plait
set_option maxRecDepth 100000
set_option linter.unusedVariables false

/-- The table of bounds lies in memory as the package laid it. -/
def Bnds (w : World) : Prop := ∀ i, i < 8 → w.cell? ⟨0, i, none⟩ = some (.int .i64 ([6, 12, 0, 100, 0, 100, 0, 65535].getD i 0))

theorem block_lt {w : World} {b o : Nat} {v : Value} (h : w.cell? ⟨b, o, none⟩ = some v) : b < w.heap.size := by
  rcases Nat.lt_or_ge b w.heap.size with h' | h'
  · exact h'
  · unfold World.cell? at h
    rw [show w.heap[(⟨b, o, none⟩ : Addr).block]? = none from Array.getElem?_eq_none h'] at h
    simp at h

theorem Bnds.lt {w : World} (h : Bnds w) : 0 < w.heap.size := block_lt (h 0 (by omega))
theorem Bnds.later {w w' : World} (h : Bnds w) (hb : Below w.heap.size w w') : Bnds w' := fun i hi => by rw [hb.cell (p := ⟨0, i, none⟩) h.lt]; exact h i hi

theorem choldsS_any (lo hi n : Int) (w : World) :
    Calls Tryz.prog 84 #[.agg #[.int .i64 lo, .int .i64 hi], .int .i64 n] w fun e w' => e = .returned (.bool (decide (lo ≤ n) && decide (n ≤ hi))) ∧ Below w.heap.size w w' := by
  by_cases h : lo ≤ n
  · have hd : decide (lo ≤ n) = true := by simpa using h
    go_enter Tryz.func84, Tryz.ntmps84
    go_wp2
    go_ret
    exact ⟨ret_bool (by simp [hd]), alloc_below _ _⟩
  · have hd : decide (lo ≤ n) = false := by simpa using h
    go_enter Tryz.func84, Tryz.ntmps84
    go_wp2
    go_ret
    exact ⟨ret_bool (by simp), alloc_below _ _⟩

/-- An array's element, by value. -/
theorem idx4 (v0 v1 v2 v3 : Int) (W : World) : (Instr.index 119 (.agg #[.int .i64 v0, .int .i64 v1, .int .i64 v2, .int .i64 v3]) (.int .i64 0)).run Tryz.prog W = .ok (.int .i64 v0) W
    ∧ (Instr.index 119 (.agg #[.int .i64 v0, .int .i64 v1, .int .i64 v2, .int .i64 v3]) (.int .i64 1)).run Tryz.prog W = .ok (.int .i64 v1) W
    ∧ (Instr.index 119 (.agg #[.int .i64 v0, .int .i64 v1, .int .i64 v2, .int .i64 v3]) (.int .i64 2)).run Tryz.prog W = .ok (.int .i64 v2) W
    ∧ (Instr.index 119 (.agg #[.int .i64 v0, .int .i64 v1, .int .i64 v2, .int .i64 v3]) (.int .i64 3)).run Tryz.prog W = .ok (.int .i64 v3) W := by
  refine ⟨?_, ?_, ?_, ?_⟩ <;> rfl

/-- The loop over the numbers and their bounds. -/
def NumsAtC (bx : Array Value) (c : Cf) (w : World) (i : Value) (w' : World) : Prop :=
  ∃ k : Nat, k ≤ 4 ∧ i = .int .i64 k ∧ Below w.heap.size w w' ∧ Blk w' w.heap.size 24 bx ∧ ((0 < k → 6 ≤ c.N ∧ c.N ≤ 12) ∧ (1 < k → 0 ≤ c.E ∧ c.E ≤ 100) ∧ (2 < k → 0 ≤ c.G ∧ c.G ≤ 100) ∧ (3 < k → 0 ≤ c.F ∧ c.F ≤ 65535))

set_option maxHeartbeats 1600000 in
theorem cnums_any (c : Cf) (a : Option Addr) (cap : Nat) (w : World) (hbd : Bnds w) :
    Calls Tryz.prog 68 #[.agg #[.int .i64 c.N, .int .i64 c.Pi, .int .i64 c.E, .int .i64 c.G, .int .i64 c.F, .slice a c.P.length cap]] w fun e w' => e = .returned (.bool (numsB c)) ∧ Below w.heap.size w w' := by
  have HI := Lib.hid (numsB_iff c)
  have HN := Lib.hid (numsB_not c)
  go_enter Tryz.func68, Tryz.ntmps68
  go_wp2
  go_loopw [14] (fun i w' => NumsAtC (confBox c a cap) c w i w') (fun i _ => 4 - (intOf i).toNat)
  case atStart => exact ⟨0, by omega, rfl, alloc_below _ _, Blk.new _ _ _, by omega, by omega, by omega, by omega⟩
  case round =>
    obtain ⟨k, hk, rfl, hB, hK, ha⟩ := hrel
    have hbr := hbd.later hB
    have HA := Lib.hid ha
    clear ha
    rcases (by omega : k = 0 ∨ k = 1 ∨ k = 2 ∨ k = 3 ∨ k = 4) with rfl | rfl | rfl | rfl | rfl
    · have g0 := hbr 0 (by omega)
      have g1 := hbr 1 (by omega)
      simp at g0 g1
      have hix := (idx4 c.N c.E c.G c.F wr).1
      by_cases hh : 6 ≤ c.N ∧ c.N ≤ 12
      · have hd : (decide (6 ≤ c.N) && decide (c.N ≤ 12)) = true := by simpa using hh
        have HH := Lib.hid hh
        clear hh
        go_wp2_with fail
        refine (choldsS_any 6 12 c.N _).mono ?_
        rintro e wn ⟨rfl, hb⟩
        rw [hd]
        go_wp2
        go_roundw
        case rel =>
          have h1 := HA.out
          have h2 := HH.out
          exact ⟨1, by omega, by go_num, hB.trans (hb.mono hB.size), hK.later hb, by omega, by omega, by omega, by omega⟩
        case measure => simp [intOf]
      · have hd : (decide (6 ≤ c.N) && decide (c.N ≤ 12)) = false := by
          rw [Bool.eq_false_iff]; simpa using hh
        have HF := Lib.hid (HN.out (fun h => hh (by omega)))
        clear hh
        go_wp2_with fail
        refine (choldsS_any 6 12 c.N _).mono ?_
        rintro e wn ⟨rfl, hb⟩
        rw [hd]
        go_wp2
        go_ret
        exact ⟨ret_bool HF.out.symm, hB.trans (hb.mono hB.size)⟩
    · have g0 := hbr 2 (by omega)
      have g1 := hbr 3 (by omega)
      simp at g0 g1
      have hix := (idx4 c.N c.E c.G c.F wr).2.1
      by_cases hh : 0 ≤ c.E ∧ c.E ≤ 100
      · have hd : (decide (0 ≤ c.E) && decide (c.E ≤ 100)) = true := by simpa using hh
        have HH := Lib.hid hh
        clear hh
        go_wp2_with fail
        refine (choldsS_any 0 100 c.E _).mono ?_
        rintro e wn ⟨rfl, hb⟩
        rw [hd]
        go_wp2
        go_roundw
        case rel =>
          have h1 := HA.out
          have h2 := HH.out
          exact ⟨2, by omega, by go_num, hB.trans (hb.mono hB.size), hK.later hb, by omega, by omega, by omega, by omega⟩
        case measure => simp [intOf]
      · have hd : (decide (0 ≤ c.E) && decide (c.E ≤ 100)) = false := by
          rw [Bool.eq_false_iff]; simpa using hh
        have HF := Lib.hid (HN.out (fun h => hh (by omega)))
        clear hh
        go_wp2_with fail
        refine (choldsS_any 0 100 c.E _).mono ?_
        rintro e wn ⟨rfl, hb⟩
        rw [hd]
        go_wp2
        go_ret
        exact ⟨ret_bool HF.out.symm, hB.trans (hb.mono hB.size)⟩
    · have g0 := hbr 4 (by omega)
      have g1 := hbr 5 (by omega)
      simp at g0 g1
      have hix := (idx4 c.N c.E c.G c.F wr).2.2.1
      by_cases hh : 0 ≤ c.G ∧ c.G ≤ 100
      · have hd : (decide (0 ≤ c.G) && decide (c.G ≤ 100)) = true := by simpa using hh
        have HH := Lib.hid hh
        clear hh
        go_wp2_with fail
        refine (choldsS_any 0 100 c.G _).mono ?_
        rintro e wn ⟨rfl, hb⟩
        rw [hd]
        go_wp2
        go_roundw
        case rel =>
          have h1 := HA.out
          have h2 := HH.out
          exact ⟨3, by omega, by go_num, hB.trans (hb.mono hB.size), hK.later hb, by omega, by omega, by omega, by omega⟩
        case measure => simp [intOf]
      · have hd : (decide (0 ≤ c.G) && decide (c.G ≤ 100)) = false := by
          rw [Bool.eq_false_iff]; simpa using hh
        have HF := Lib.hid (HN.out (fun h => hh (by omega)))
        clear hh
        go_wp2_with fail
        refine (choldsS_any 0 100 c.G _).mono ?_
        rintro e wn ⟨rfl, hb⟩
        rw [hd]
        go_wp2
        go_ret
        exact ⟨ret_bool HF.out.symm, hB.trans (hb.mono hB.size)⟩
    · have g0 := hbr 6 (by omega)
      have g1 := hbr 7 (by omega)
      simp at g0 g1
      have hix := (idx4 c.N c.E c.G c.F wr).2.2.2
      by_cases hh : 0 ≤ c.F ∧ c.F ≤ 65535
      · have hd : (decide (0 ≤ c.F) && decide (c.F ≤ 65535)) = true := by simpa using hh
        have HH := Lib.hid hh
        clear hh
        go_wp2_with fail
        refine (choldsS_any 0 65535 c.F _).mono ?_
        rintro e wn ⟨rfl, hb⟩
        rw [hd]
        go_wp2
        go_roundw
        case rel =>
          have h1 := HA.out
          have h2 := HH.out
          exact ⟨4, by omega, by go_num, hB.trans (hb.mono hB.size), hK.later hb, by omega, by omega, by omega, by omega⟩
        case measure => simp [intOf]
      · have hd : (decide (0 ≤ c.F) && decide (c.F ≤ 65535)) = false := by
          rw [Bool.eq_false_iff]; simpa using hh
        have HF := Lib.hid (HN.out (fun h => hh (by omega)))
        clear hh
        go_wp2_with fail
        refine (choldsS_any 0 65535 c.F _).mono ?_
        rintro e wn ⟨rfl, hb⟩
        rw [hd]
        go_wp2
        go_ret
        exact ⟨ret_bool HF.out.symm, hB.trans (hb.mono hB.size)⟩
    · obtain ⟨a0, a1, a2, a3⟩ := HA.out
      have b0 := a0 (by omega)
      have b1 := a1 (by omega)
      have b2 := a2 (by omega)
      have b3 := a3 (by omega)
      clear a0 a1 a2 a3
      obtain ⟨b1a, b1b⟩ := b1
      obtain ⟨b2a, b2b⟩ := b2
      have HF := Lib.hid (show (decide (4 * (c.E + c.G + 1) ≤ c.Pi) && decide (c.Pi ≤ 10000)) = numsB c by
        rw [Bool.eq_iff_iff, HI.out]; simp; omega)
      clear b0 b3
      have hQ := hK.at
      unfold confBox at hQ
      go_wp2_with fail
      refine (choldsS_any (4 * (c.E + c.G + 1)) 10000 c.Pi _).mono ?_
      rintro e wn ⟨rfl, hb⟩
      go_wp2
      go_ret
      exact ⟨ret_bool HF.out, hB.trans (hb.mono hB.size)⟩

/-- The loop over the pairs. -/
def PairsAt (bx : Array Value) (c : Cf) (w : World) (i : Value) (w' : World) : Prop :=
  ∃ k : Nat, k ≤ c.P.length ∧ i = .int .i64 k ∧ Below w.heap.size w w' ∧ Blk w' w.heap.size 24 bx ∧ ∀ z ∈ c.P.take k, pairB c z = true

set_option maxHeartbeats 1600000 in
theorem cpairs_any (c : Cf) (a : Option Addr) (cap : Nat) (w : World) (hn : 0 ≤ c.N) (hrow : Row w a c.P) :
    Calls Tryz.prog 69 #[.agg #[.int .i64 c.N, .int .i64 c.Pi, .int .i64 c.E, .int .i64 c.G, .int .i64 c.F, .slice a c.P.length cap]] w fun e w' => e = .returned (.bool (pairsB c)) ∧ Below w.heap.size w w' := by
  have hlen := hrow.1
  go_enter Tryz.func69, Tryz.ntmps69
  go_wp2
  go_loopw [8] (fun i w' => PairsAt (confBox c a cap) c w i w') (fun i _ => c.P.length - (intOf i).toNat)
  case atStart => exact ⟨0, Nat.zero_le _, rfl, alloc_below _ _, Blk.new _ _ _, by simp⟩
  case round =>
    obtain ⟨k, hk, rfl, hB, hK, ha⟩ := hrel
    have HA := Lib.hid ha
    clear ha
    by_cases hlt : k < c.P.length
    · have d1 : decide (k < c.P.length) = true := by simpa using hlt
      have HT := Lib.hid (show c.P.take (k + 1) = c.P.take k ++ [c.P[k]] from List.take_succ_eq_append_getElem hlt)
      obtain ⟨b, off, rfl, hbl, hcell, hz1, hz2⟩ := (hrow.later hB).get k hlt
      have hQ := hK.at
      unfold confBox at hQ
      have HNo := Lib.hid (pairsB_no c k hlt)
      generalize c.P[k] = z at *
      by_cases hz : z = -1
      · have d2 : (z != -1) = false := by simp [hz]
        have HP := Lib.hid (show pairB c z = true by rw [hz]; simp [pairB]; omega)
        clear hz
        go_wp2
        go_roundw
        case rel =>
          refine ⟨k + 1, by omega, by go_num, hB, hK, ?_⟩
          rw [HT.out]
          intro y hy
          rcases List.mem_append.1 hy with hy | hy
          · exact HA.out y hy
          · simp at hy; rw [hy]; exact HP.out
        case measure => simp [intOf]; omega
      · have d2 : (z != -1) = true := by simp [hz]
        have HE := Lib.hid (pairB_node c z hz)
        clear hz
        cases hnd : nodeB c z
        · have HD := Lib.hid hnd
          have HF := Lib.hid (HNo.out (by rw [HE.out]; exact hnd))
          clear hnd
          go_wp2_with fail
          refine (cisNode_any c _ cap z _).mono ?_
          rintro e wn ⟨rfl, hb⟩
          clear hQ
          obtain ⟨hB, hK, hZ⟩ := boxed_on hB hK hb
          have hQ := hK.at
          clear hb
          rw [HD.out]
          go_wp2
          go_ret
          exact ⟨ret_bool HF.out.symm, hB⟩
        · have HD := Lib.hid hnd
          clear hnd
          go_wp2_with fail
          refine (cisNode_any c _ cap z _).mono ?_
          rintro e wn ⟨rfl, hb⟩
          clear hQ
          obtain ⟨hB, hK, hZ⟩ := boxed_on hB hK hb
          have hQ := hK.at
          clear hb
          rw [HD.out]
          go_wp2
          go_roundw
          case rel =>
            refine ⟨k + 1, by omega, by go_num, hB, hK, ?_⟩
            rw [HT.out]
            intro y hy
            rcases List.mem_append.1 hy with hy | hy
            · exact HA.out y hy
            · simp at hy; rw [hy, HE.out]; exact HD.out
          case measure => simp [intOf]; omega
    · have d1 : decide (k < c.P.length) = false := by simpa using hlt
      have HF := Lib.hid (pairsB_yes c k hlt HA.out)
      go_wp2
      go_ret
      exact ⟨ret_bool HF.out.symm, hB⟩

set_option maxHeartbeats 800000 in
theorem ccheck_any (c : Cf) (a : Option Addr) (cap : Nat) (w : World) (hbd : Bnds w) (hrow : Row w a c.P) :
    Calls Tryz.prog 54 #[.agg #[.int .i64 c.N, .int .i64 c.Pi, .int .i64 c.E, .int .i64 c.G, .int .i64 c.F, .slice a c.P.length cap]] w fun e w' => e = .returned (.int .i64 (checkI c)) ∧ Below w.heap.size w w' := by
  have hlen := hrow.1
  cases hn : numsB c
  · have HF := Lib.hid (checkI_nums c hn)
    have HN := Lib.hid hn
    clear hn
    go_enter Tryz.func54, Tryz.ntmps54
    go_wp2_with fail
    refine (cnums_any c a cap _ (hbd.later (alloc_below _ _))).mono ?_
    rintro e wn ⟨rfl, hb⟩
    obtain ⟨hB, hK, hZ⟩ := boxed hb
    have hQ := hK.at
    clear hb
    rw [HN.out]
    go_wp2
    go_ret
    exact ⟨ret_int HF.out.symm, hB⟩
  · have hb := (numsB_iff c).1 hn
    have hN : 0 ≤ c.N := by omega
    have HN := Lib.hid hn
    clear hb
    by_cases hl : 3 < c.P.length
    · have HF := Lib.hid (checkI_long c hn hl)
      have d : decide ((3 : Int) < (c.P.length : Int)) = true := by simp; omega
      clear hn
      go_enter Tryz.func54, Tryz.ntmps54
      go_wp2_with fail
      refine (cnums_any c a cap _ (hbd.later (alloc_below _ _))).mono ?_
      rintro e wn ⟨rfl, hb⟩
      obtain ⟨hB, hK, hZ⟩ := boxed hb
      have hQ := hK.at
      clear hb
      rw [HN.out]
      go_wp2
      go_ret
      exact ⟨ret_int HF.out.symm, hB⟩
    · have HF := Lib.hid (checkI_pairs c hn (by omega))
      have d : decide ((3 : Int) < (c.P.length : Int)) = false := by simp; omega
      clear hn
      cases hp : pairsB c
      · have HP := Lib.hid hp
        clear hp
        go_enter Tryz.func54, Tryz.ntmps54
        go_wp2_with fail
        refine (cnums_any c a cap _ (hbd.later (alloc_below _ _))).mono ?_
        rintro e wn ⟨rfl, hb⟩
        obtain ⟨hB, hK, hZ⟩ := boxed hb
        have hQ := hK.at
        clear hb
        rw [HN.out]
        go_wp2_with fail
        refine (cpairs_any c a cap _ hN (hrow.later hB)).mono ?_
        rintro e wn ⟨rfl, hb⟩
        clear hQ
        obtain ⟨hB, hK, hZ⟩ := boxed_on hB hK hb
        have hQ := hK.at
        clear hb
        rw [HP.out]
        go_wp2
        go_ret
        exact ⟨ret_int (by rw [HF.out, HP.out]; rfl), hB⟩
      · have HP := Lib.hid hp
        clear hp
        go_enter Tryz.func54, Tryz.ntmps54
        go_wp2_with fail
        refine (cnums_any c a cap _ (hbd.later (alloc_below _ _))).mono ?_
        rintro e wn ⟨rfl, hb⟩
        obtain ⟨hB, hK, hZ⟩ := boxed hb
        have hQ := hK.at
        clear hb
        rw [HN.out]
        go_wp2_with fail
        refine (cpairs_any c a cap _ hN (hrow.later hB)).mono ?_
        rintro e wn ⟨rfl, hb⟩
        clear hQ
        obtain ⟨hB, hK, hZ⟩ := boxed_on hB hK hb
        have hQ := hK.at
        clear hb
        rw [HP.out]
        go_wp2
        go_ret
        exact ⟨ret_int (by rw [HF.out, HP.out]; rfl), hB⟩

end Go.Proofs.YthhmedlefahccaaGreatDoor
/-
  What the frames of the laws over slots use: the table of bounds as the package lays it.
-/
namespace Go.Proofs.YthhmedlefahccaaGreatDoor
open Go.ChangeShapes Go.WideShapes Go.ChangeAt Go.RowKit Go.Joins Go.Deep Plait
set_option maxRecDepth 100000
set_option linter.unusedVariables false

/-- The table of bounds, as the row lists it. -/
abbrev laidV : List (String × DataW Unit) := Rows.spreadAllRow.laid

theorem gBounds : Tryz.prog.globalNamed (Rows.spreadAllRow.named.headD "") = some 0 := by kernel_rfl
theorem tBounds : (Tryz.prog.globals[0]?).map (·.type) = some 122 := by kernel_rfl

theorem door_met (os : Os) (args : Array Value) : laidMetH Tryz.prog laidV ((World.doorLaid Tryz.prog 400 os).forCall (fun _ _ => 0) ⟨#[], args, []⟩).memory :=
  laidMetH_of_parts3 (fuel := 8) (laidMet_of_run' 8 (by kernel_rfl) (by kernel_rfl)) (by kernel_rfl) (by kernel_rfl)

theorem span_read {H : Type} {enc : TypeId × Value → H} {W : World} {base : Nat} {spare : Nat → Bool} {held : Bool} {m : Nat} {a b : Value} {lo hi : Int} {x : DataW H × List MemPlace} (hx : x.1 = .agg [.lit (.int .i64 lo), .lit (.int .i64 hi)])
    (h : DataW.trod enc Tryz.prog W base spare held m 121 [a, b] = some x) : a = .int .i64 lo ∧ b = .int .i64 hi := by
  obtain ⟨ys, n, _, hy, _, hlen, hg⟩ := DataW.trod_struct Tryz.underlying121 h
  have k3 : Tryz.prog.cellsOf 3 = 1 := by kernel_rfl
  match ys, hlen with
  | [y0, y1], _ =>
    have t0 := hg 0 _ rfl
    have t1 := hg 1 _ rfl
    simp [k3] at t0 t1
    obtain ⟨n0, e0, r0, _⟩ := DataW.trod_int Tryz.underlying3 t0
    obtain ⟨n1, e1, r1, _⟩ := DataW.trod_int Tryz.underlying3 t1
    rw [hy] at hx
    simp [r0, r1] at hx
    simp at e0 e1
    rw [e0, e1, hx.1, hx.2]
    exact ⟨rfl, rfl⟩

theorem of_laid {W : World} (h : laidMetH Tryz.prog laidV W) : Bnds W := by
  rw [MakeChecks.laidMetH_plain _ _ _ (by kernel_rfl)] at h
  obtain ⟨ps, ⟨g0, t0, cs0, f0, p0, q0, hg0, ht0, hv0, hd0, _⟩, _, _⟩ := h
  obtain rfl := Option.some.inj (gBounds.symm.trans hg0)
  obtain rfl := Option.some.inj (tBounds.symm.trans ht0)
  have hc : ∀ i, W.cell? ⟨0, i, none⟩ = cs0[i]? := fun i => World.var?_cell hg0 hv0 i
  obtain ⟨xs, m1, rfl, hx1, hlen, hn4, hel⟩ := DataW.trod_array Tryz.underlying122 hd0
  have c44 : Tryz.prog.cellsOf 121 = 2 := by kernel_rfl
  have c45 : Tryz.prog.cellsOf 122 = 8 := by kernel_rfl
  rw [c45] at hlen
  rw [c44] at hel
  obtain ⟨l⟩ := cs0
  match l, hlen with
  | [a0, a1, a2, a3, a4, a5, a6, a7], _ =>
    match xs, hn4 with
    | [x0, x1, x2, x3], _ =>
      simp only [Prod.mk.injEq, Rows.laid_plaiting_conf_bounds, List.map_cons, List.map_nil, DataW.agg.injEq, List.cons.injEq] at hx1
      obtain ⟨⟨y0, y1, y2, y3, _⟩, _⟩ := hx1
      obtain ⟨rfl, rfl⟩ := span_read y0.symm (hel 0 (by omega))
      obtain ⟨rfl, rfl⟩ := span_read y1.symm (hel 1 (by omega))
      obtain ⟨rfl, rfl⟩ := span_read y2.symm (hel 2 (by omega))
      obtain ⟨rfl, rfl⟩ := span_read y3.symm (hel 3 (by omega))
      intro i hi
      rw [hc i]
      rcases (by omega : i = 0 ∨ i = 1 ∨ i = 2 ∨ i = 3 ∨ i = 4 ∨ i = 5 ∨ i = 6 ∨ i = 7) with rfl | rfl | rfl | rfl | rfl | rfl | rfl | rfl <;> rfl

end Go.Proofs.YthhmedlefahccaaGreatDoor
/-
  Plain mathematics of symbols, on: the front that texts have in common.
-/
namespace Plait

theorem common_nil_left (m : List UInt8) : common [] m = [] := by simp [common]
theorem common_nil_right (l : List UInt8) : common l [] = [] := by cases l <;> simp [common, comm]
theorem common_cons (a b : UInt8) (l m : List UInt8) : common (a :: l) (b :: m) = if a = b then a :: common l m else [] := by
  unfold common
  simp only [comm]
  split <;> simp

theorem common_symm : ∀ l m, common l m = common m l
  | [], m => by rw [common_nil_left, common_nil_right]
  | a :: l, [] => by rw [common_nil_left, common_nil_right]
  | a :: l, b :: m => by
    rw [common_cons, common_cons, common_symm l m]
    by_cases h : a = b
    · subst h; rfl
    · rw [if_neg h, if_neg (Ne.symm h)]

theorem common_self : ∀ l, common l l = l
  | [] => common_nil_left []
  | a :: l => by rw [common_cons, if_pos rfl, common_self l]

theorem common_assoc : ∀ a b c, common (common a b) c = common a (common b c)
  | [], b, c => by simp [common_nil_left]
  | x :: a, [], c => by simp [common_nil_left, common_nil_right]
  | x :: a, y :: b, [] => by simp [common_nil_right]
  | x :: a, y :: b, z :: c => by
    have ih := common_assoc a b c
    rw [common_cons x y, common_cons y z]
    by_cases h : x = y
    · subst h
      rw [if_pos rfl, common_cons]
      by_cases h2 : x = z
      · subst h2
        rw [if_pos rfl, if_pos rfl, common_cons, if_pos rfl, ih]
      · rw [if_neg h2, if_neg h2, common_nil_right]
    · rw [if_neg h, common_nil_left]
      by_cases h2 : y = z
      · rw [if_pos h2, common_cons, if_neg h]
      · rw [if_neg h2, common_nil_right]

theorem common_front : ∀ l m, frontB (common l m) l = true
  | [], m => by rw [common_nil_left]; rfl
  | a :: l, [] => by rw [common_nil_right]; rfl
  | a :: l, b :: m => by
    rw [common_cons]
    split
    · have := common_front l m
      simp [frontB] at this ⊢
      exact this
    · rfl

theorem common_front_right (l m : List UInt8) : frontB (common l m) m = true := by
  rw [common_symm]; exact common_front m l

theorem common_prefix : ∀ k l m : List UInt8, common (k ++ l) (k ++ m) = k ++ common l m
  | [], l, m => rfl
  | a :: k, l, m => by
    rw [List.cons_append, List.cons_append, common_cons, if_pos rfl, common_prefix k l m, List.cons_append]

theorem common_length (l m : List UInt8) : (common l m).length = comm l m := by
  rw [common, List.length_take]
  have := comm_le_left l m
  omega

theorem comm_next : ∀ (l m : List UInt8) (h1 : comm l m < l.length) (h2 : comm l m < m.length), l[comm l m] ≠ m[comm l m]
  | [], m, h1, _ => by simp at h1
  | a :: l, [], _, h2 => by simp at h2
  | a :: l, b :: m, h1, h2 => by
    by_cases h : a = b
    · subst h
      have e : comm (a :: l) (a :: m) = comm l m + 1 := by simp [comm]
      simp only [e, List.getElem_cons_succ]
      exact comm_next l m (by simp [comm] at h1; exact h1) (by simp [comm] at h2; exact h2)
    · have e : comm (a :: l) (b :: m) = 0 := by simp [comm, h]
      simp only [e, List.getElem_cons_zero]
      exact h

end Plait
/-
  Plain mathematics of one relay: what goes out at a step, what goes out of two texts, how far it has come.
-/
namespace Plait

def symB (c : UInt8) : Bool := bitB c || c == 35

/-- Does what comes in go out? -/
def passB (cmp over : Bool) (d s : UInt8) : Bool := !over && symB d && (!cmp || d == s)
def stepC (cmp over : Bool) (d s : UInt8) : UInt8 := if passB cmp over d s then d else 46
def stepO (cmp over : Bool) (d s : UInt8) : Bool := if passB cmp over d s then d == 35 else true

def outL (cmp : Bool) (a b : List UInt8) : List UInt8 := if cmp then common (clean a) (clean b) else clean a

/-- What a text brings at a place: idle behind its end. -/
def padL (a : List UInt8) (i : Nat) : UInt8 := a.getD i 46

theorem padL_in (a : List UInt8) (i : Nat) (h : i < a.length) : padL a i = a[i] := by
  unfold padL
  rw [List.getD_eq_getElem?_getD, List.getElem?_eq_getElem h]; rfl
theorem padL_out (a : List UInt8) (i : Nat) (h : ¬ i < a.length) : padL a i = 46 := by
  unfold padL
  rw [List.getD_eq_getElem?_getD, List.getElem?_eq_none (by omega)]; rfl

/-- Behind i symbols that went out: whether it is over. -/
structure LaneAt (cmp : Bool) (a b : List UInt8) (i : Nat) (o : Bool) : Prop where
  le : i ≤ a.length
  same : cmp = true → i ≤ b.length ∧ a.take i = b.take i
  st : (o = false ∧ ∀ c ∈ a.take i, bitB c = true) ∨ (o = true ∧ 0 < i ∧ (∀ c ∈ a.take (i - 1), bitB c = true) ∧ a[i - 1]? = some 35)

theorem LaneAt.start (cmp : Bool) (a b : List UInt8) : LaneAt cmp a b 0 false := ⟨Nat.zero_le _, fun _ => ⟨Nat.zero_le _, by simp⟩, .inl ⟨rfl, by simp⟩⟩

theorem symB_dot : symB 46 = false := by decide

theorem passB_in {cmp o : Bool} {a b : List UInt8} {i : Nat} (h : passB cmp o (padL a i) (padL b i) = true) : i < a.length ∧ o = false ∧ symB (padL a i) = true ∧ (cmp = true → i < b.length ∧ padL a i = padL b i) := by
  unfold passB at h
  simp only [Bool.and_eq_true, Bool.not_eq_true', Bool.or_eq_true, beq_iff_eq] at h
  obtain ⟨⟨h1, h2⟩, h3⟩ := h
  have hi : i < a.length := by
    rcases Nat.lt_or_ge i a.length with q | q
    · exact q
    · rw [padL_out a i (by omega), symB_dot] at h2; cases h2
  refine ⟨hi, h1, h2, fun hc => ?_⟩
  rcases h3 with h3 | h3
  · rw [hc] at h3; cases h3
  · refine ⟨?_, h3⟩
    rcases Nat.lt_or_ge i b.length with q | q
    · exact q
    · rw [h3, padL_out b i (by omega), symB_dot] at h2; cases h2

/-- A step that passes. -/
theorem LaneAt.next {cmp o : Bool} {a b : List UInt8} {i : Nat} (h : LaneAt cmp a b i o) (hp : passB cmp o (padL a i) (padL b i) = true) : LaneAt cmp a b (i + 1) (padL a i == 35) ∧ i < a.length := by
  obtain ⟨hi, ho, hs, hc⟩ := passB_in hp
  refine ⟨⟨hi, fun e => ?_, ?_⟩, hi⟩
  · obtain ⟨hb, he⟩ := hc e
    rw [padL_in a i hi, padL_in b i hb] at he
    exact ⟨hb, take_snoc_eq i a b hi hb (h.same e).2 he⟩
  · rcases h.st with ⟨_, hb⟩ | ⟨ho', _⟩
    · rw [padL_in a i hi] at hs ⊢
      by_cases h35 : a[i] = 35
      · right
        refine ⟨by simp [h35], by omega, by simpa using hb, ?_⟩
        rw [Nat.add_sub_cancel, List.getElem?_eq_getElem hi, h35]
      · left
        refine ⟨by simp [h35], bits_snoc a i hi hb ?_⟩
        unfold symB at hs
        simpa [h35] using hs
    · rw [ho] at ho'; cases ho'

theorem clean_take_of_bits (a : List UInt8) (i : Nat) (hi : i ≤ a.length) (hb : ∀ c ∈ a.take i, bitB c = true) : i ≤ slen a := by
  rw [slen_bits i a hi hb]; omega

theorem take_clean (a : List UInt8) (i : Nat) (h : i ≤ slen a) : (clean a).take i = a.take i := by
  unfold clean
  rw [List.take_take, Nat.min_eq_left h]

theorem clean_len (a : List UInt8) : (clean a).length = slen a := by
  unfold clean
  rw [List.length_take]
  have := slen_le a
  omega

theorem LaneAt.slen {cmp o : Bool} {a b : List UInt8} {i : Nat} (h : LaneAt cmp a b i o) : i ≤ Plait.slen a := by
  rcases h.st with ⟨_, hb⟩ | ⟨_, h0, hb, h35⟩
  · exact clean_take_of_bits a i h.le hb
  · have hlt : i - 1 < a.length := by have := h.le; omega
    rw [List.getElem?_eq_getElem hlt] at h35
    have := slen_at_tail a (i - 1) hlt hb (by simpa using h35)
    omega

theorem bits_take_congr {a b : List UInt8} {i : Nat} (h : a.take i = b.take i) (hb : ∀ c ∈ a.take i, bitB c = true) : ∀ c ∈ b.take i, bitB c = true := by rw [← h]; exact hb

/-- The other text has a stream as long, where they are compared. -/
theorem LaneAt.slen2 {o : Bool} {a b : List UInt8} {i : Nat} (h : LaneAt true a b i o) : i ≤ Plait.slen b := by
  obtain ⟨hl, he⟩ := h.same rfl
  rcases h.st with ⟨_, hb⟩ | ⟨_, h0, hb, h35⟩
  · exact clean_take_of_bits b i hl (bits_take_congr he hb)
  · have hlt : i - 1 < b.length := by omega
    have hlt2 : i - 1 < a.length := by have := h.le; omega
    have he1 : a.take (i - 1) = b.take (i - 1) := by
      have := congrArg (List.take (i - 1)) he
      rwa [List.take_take, List.take_take, Nat.min_eq_left (by omega)] at this
    have he2 : b[i - 1] = 35 := by
      have hq : (a.take i)[i - 1]? = (b.take i)[i - 1]? := by rw [he]
      rw [List.getElem?_take_of_lt (by omega), List.getElem?_take_of_lt (by omega), h35, List.getElem?_eq_getElem hlt] at hq
      simpa using hq.symm
    have := slen_at_tail b (i - 1) hlt (bits_take_congr he1 hb) he2
    omega

/-- A step that does not pass: what went out is all. -/
theorem LaneAt.stop {cmp o : Bool} {a b : List UInt8} {i : Nat} (h : LaneAt cmp a b i o) (hp : passB cmp o (padL a i) (padL b i) = false) : outL cmp a b = a.take i := by
  have hs := h.slen
  have key : Plait.slen a = i ∨ (cmp = true ∧ (Plait.slen b = i ∨ ∃ (h1 : i < a.length) (h2 : i < b.length), a[i] ≠ b[i] ∧ i < Plait.slen a ∧ i < Plait.slen b)) := by
    rcases h.st with ⟨ho, hb⟩ | ⟨ho, h0, hb, h35⟩
    · subst ho
      by_cases hi : i < a.length
      · by_cases hsy : symB a[i] = true
        · right
          unfold passB at hp
          rw [padL_in a i hi, hsy] at hp
          simp at hp
          obtain ⟨hc, hne⟩ := hp
          refine ⟨hc, ?_⟩
          subst hc
          obtain ⟨hl, he⟩ := h.same rfl
          have hb2 := bits_take_congr he hb
          have s1 : i < Plait.slen a := by
            by_cases h35 : a[i] = 35
            · rw [slen_at_tail a i hi hb h35]; omega
            · have := clean_take_of_bits a (i + 1) hi (bits_snoc a i hi hb (by unfold symB at hsy; simpa [h35] using hsy))
              omega
          by_cases hi2 : i < b.length
          · rw [padL_in b i hi2] at hne
            by_cases hsy2 : symB b[i] = true
            · right
              refine ⟨hi, hi2, hne, s1, ?_⟩
              by_cases h35 : b[i] = 35
              · rw [slen_at_tail b i hi2 hb2 h35]; omega
              · have := clean_take_of_bits b (i + 1) hi2 (bits_snoc b i hi2 hb2 (by unfold symB at hsy2; simpa [h35] using hsy2))
                omega
            · left
              unfold symB at hsy2
              simp at hsy2
              exact slen_at_other b i hi2 hb2 hsy2.2 hsy2.1
          · left
            have : i = b.length := by omega
            subst this
            exact slen_at_end b hb2
        · left
          unfold symB at hsy
          simp at hsy
          exact slen_at_other a i hi hb hsy.2 hsy.1
      · left
        have : i = a.length := by have := h.le; omega
        subst this
        exact slen_at_end a hb
    · left
      have hlt : i - 1 < a.length := by have := h.le; omega
      rw [List.getElem?_eq_getElem hlt] at h35
      have := slen_at_tail a (i - 1) hlt hb (by simpa using h35)
      omega
  unfold outL
  cases cmp with
  | false =>
    rcases key with k | ⟨k, _⟩
    · simp [clean, k]
    · cases k
  | true =>
    obtain ⟨hl, he⟩ := h.same rfl
    have hs2 := h.slen2
    simp only [if_true]
    have t1 := take_clean a i hs
    have t2 := take_clean b i hs2
    have hee : (clean a).take i = (clean b).take i := by rw [t1, t2, he]
    have hcc : comm (clean a) (clean b) = i := by
      rcases key with k | ⟨_, k | ⟨h1, h2, hne, k1, k2⟩⟩
      · exact comm_out_left i _ _ (by rw [clean_len, k]) (by rw [clean_len]; exact hs2) hee
      · exact comm_out_right i _ _ (by rw [clean_len]; exact hs) (by rw [clean_len, k]) hee
      · refine comm_stop i _ _ (by rw [clean_len]; exact k1) (by rw [clean_len]; exact k2) hee ?_
        simp only [clean, List.getElem_take]
        exact hne
    rw [common, hcc, t1]

/-- At the direct text's end, too. -/
theorem LaneAt.done {cmp o : Bool} {a b : List UInt8} (h : LaneAt cmp a b a.length o) : outL cmp a b = a := by
  rw [h.stop, List.take_length]
  unfold passB
  rw [padL_out a a.length (by omega), symB_dot]
  simp

theorem outL_len (cmp : Bool) (a b : List UInt8) : (outL cmp a b).length ≤ a.length := by
  have h1 := slen_le a
  unfold outL
  split
  · rw [common, List.length_take, clean_len]; omega
  · rw [clean_len]; exact h1

end Plait
/-
  Plain mathematics of relays, on: what goes out is a stream, a front of both; compared twice, and of three.
-/
namespace Plait

theorem clean_front : ∀ (a : List UInt8) (k : Nat), clean ((clean a).take k) = (clean a).take k
  | [], k => by simp [clean_nil]
  | c :: l, 0 => by simp [clean_nil]
  | c :: l, k + 1 => by
    rw [clean_cons]
    by_cases h : c = 35
    · rw [if_pos h]; simp [clean_cons]
    · rw [if_neg h]
      by_cases h2 : bitB c = true
      · rw [if_pos h2, List.take_succ_cons, clean_cons, if_neg h, if_pos h2, clean_front l k]
      · rw [if_neg h2]; simp [clean_nil]

theorem outL_true (a b : List UInt8) : outL true a b = common (clean a) (clean b) := rfl
theorem outL_false (a b : List UInt8) : outL false a b = clean a := rfl

theorem clean_out (cmp : Bool) (a b : List UInt8) : clean (outL cmp a b) = outL cmp a b := by
  cases cmp
  · exact clean_idem a
  · exact clean_front a _

theorem front_trans {a b c : List UInt8} (h1 : frontB a b = true) (h2 : frontB b c = true) : frontB a c = true := by
  unfold frontB at *
  rw [List.isPrefixOf_iff_prefix] at *
  exact h1.trans h2

theorem front_clean (a : List UInt8) : frontB (clean a) a = true := by
  unfold frontB clean
  rw [List.isPrefixOf_iff_prefix]
  exact List.take_prefix _ _

theorem out_front (a b : List UInt8) : frontB (outL true a b) a = true := front_trans (common_front _ _) (front_clean a)
theorem out_front2 (a b : List UInt8) : frontB (outL true a b) b = true := front_trans (common_front_right _ _) (front_clean b)
theorem out_symm (a b : List UInt8) : outL true b a = outL true a b := common_symm _ _
theorem out_self (a : List UInt8) : outL true a a = clean a := common_self _
theorem out_again (a b : List UInt8) : outL true (outL true a b) a = outL true a b := by
  rw [outL_true (outL true a b) a, clean_out, outL_true, common_symm, ← common_assoc, common_self]
theorem out_again2 (a b : List UInt8) : outL true (outL true a b) (outL true a b) = outL true a b := by
  rw [out_self, clean_out]
theorem out_direct (a b : List UInt8) : outL false (outL true a b) b = outL true a b := by
  rw [outL_false, clean_out]
theorem out_front3 (a b : List UInt8) : frontB (outL true a b) (outL false a b) = true := common_front _ _

theorem out3 (a b c : List UInt8) : outL true (outL true a b) c = common (clean a) (common (clean b) (clean c)) := by
  rw [outL_true (outL true a b) c, clean_out, outL_true, common_assoc]
theorem out3r (a b c : List UInt8) : outL true a (outL true b c) = common (clean a) (common (clean b) (clean c)) := by
  rw [outL_true a, clean_out, outL_true]
theorem out3t (a b c : List UInt8) : outL true (outL true c a) b = common (clean a) (common (clean b) (clean c)) := by
  rw [out3, common_symm (clean c), common_assoc]

end Plait
/-
  Plain mathematics of relays, on: step by step, what went out and whether it is over.
-/
namespace Plait

/-- Behind i steps: o whether the relay is over, v whether a dot came, s what went out ahead of it. -/
def RunAt (cmp : Bool) (a b : List UInt8) (i : Nat) (o v : Bool) (s : List UInt8) : Prop :=
  (v = false ∧ LaneAt cmp a b i o ∧ s = a.take i) ∨ (v = true ∧ o = true ∧ s = outL cmp a b)

theorem RunAt.start (cmp : Bool) (a b : List UInt8) : RunAt cmp a b 0 false false [] := .inl ⟨rfl, LaneAt.start cmp a b, by simp⟩

theorem pass_not_dot {cmp o : Bool} {d k : UInt8} (h : passB cmp o d k = true) : d ≠ 46 := by
  rintro rfl
  unfold passB at h
  rw [symB_dot] at h
  simp at h

/-- A step that passes. -/
theorem RunAt.pass {cmp o v : Bool} {a b s : List UInt8} {i : Nat} (h : RunAt cmp a b i o v s) (hp : passB cmp o (padL a i) (padL b i) = true) : v = false ∧ RunAt cmp a b (i + 1) (padL a i == 35) false (s ++ [padL a i]) := by
  rcases h with ⟨hv, hL, hs⟩ | ⟨_, ho, _⟩
  · obtain ⟨hn, hi⟩ := hL.next hp
    refine ⟨hv, .inl ⟨rfl, hn, ?_⟩⟩
    rw [hs, padL_in a i hi, List.take_succ_eq_append_getElem hi]
  · subst ho
    simp [passB] at hp

/-- One that does not. -/
theorem RunAt.fail {cmp o v : Bool} {a b s : List UInt8} {i : Nat} (h : RunAt cmp a b i o v s) (hp : passB cmp o (padL a i) (padL b i) = false) : RunAt cmp a b (i + 1) true true s := by
  rcases h with ⟨hv, hL, hs⟩ | ⟨hv, ho, hs⟩
  · exact .inr ⟨rfl, rfl, by rw [hs, hL.stop hp]⟩
  · exact .inr ⟨rfl, rfl, hs⟩

/-- At the direct text's end. -/
theorem RunAt.done {cmp o v : Bool} {a b s : List UInt8} {i : Nat} (h : RunAt cmp a b i o v s) (hi : a.length ≤ i) : s = outL cmp a b := by
  rcases h with ⟨hv, hL, hs⟩ | ⟨hv, ho, hs⟩
  · have := hL.le
    have e : i = a.length := by omega
    subst e
    rw [hs, List.take_length, hL.done]
  · exact hs

/-- Behind it. -/
theorem RunAt.over {cmp o v : Bool} {a b s : List UInt8} {i : Nat} (h : RunAt cmp a b i o v s) (hi : a.length < i) : v = true ∧ o = true ∧ s = outL cmp a b := by
  rcases h with ⟨hv, hL, hs⟩ | h
  · have := hL.le
    omega
  · exact h

theorem RunAt.len {cmp o v : Bool} {a b s : List UInt8} {i : Nat} (h : RunAt cmp a b i o v s) : s.length ≤ a.length := by
  rcases h with ⟨hv, hL, hs⟩ | ⟨hv, ho, hs⟩
  · rw [hs, List.length_take]; omega
  · rw [hs]; exact outL_len cmp a b

theorem out_front_take (s : List UInt8) (k : Nat) (hs : clean s = s) : outL true s (s.take k) = s.take k := by
  have h : clean (s.take k) = s.take k := by
    have := clean_front s k
    rwa [hs] at this
  rw [outL_true, hs, h, common_symm]
  have h2 : ∀ (l : List UInt8) (n : Nat), common (l.take n) l = l.take n := by
    intro l n
    have h := common_prefix (l.take n) [] (l.drop n)
    rw [List.append_nil, List.take_append_drop, common_nil_left, List.append_nil] at h
    exact h
  exact h2 s k

end Plait
/-
  Plain mathematics of a slot, all round, with no program in it: guardians; what each node had in a direction; who is where.
-/
namespace Plait

/-- Does a node of that state let its neighbour in? -/
def admitB (c : Cf) (st dev : Int) : Bool := st != 4 || (decide (-windowI c ≤ dev) && decide (dev ≤ windowI c))
def guardL (c : Cf) (st dev : Int) (s : List UInt8) : List UInt8 := if admitB c st dev then s else []

/-- What a node had in one direction. -/
structure Sd where
  D : List UInt8
  S : List UInt8
  O : List UInt8
  F : Int
deriving DecidableEq, Inhabited

def zeroSd : Sd := ⟨[], [], [], 0⟩

/-- A slot's: the network, the locus, round, slot, direction, the owner last in it; whether it is a pair's; what that owner sends, and the other one; states and clocks. -/
structure Sp where
  c : Cf
  f : Fa
  r : Int
  s : Int
  d : Int
  p0 : Int
  pair : Bool
  snd : List UInt8
  oth : List UInt8
  st : Int → Int
  dv : Int → Int

/-- The node so many steps behind the owner. -/
def Sp.nd (x : Sp) (k : Int) : Int := (x.p0 + x.d * k) % x.c.N

/-- What goes by a link, cleaned. -/
def Sp.em (x : Sp) (a b : Int) (l : List UInt8) : List UInt8 := clean (emitL x.c x.f x.r x.s (x.nd a) (x.nd b) l)

/-- The side of the node k + 1 steps on: of what the node ahead passed on, and the one two steps back, if it is known. -/
def Sp.side (x : Sp) (k : Nat) (q : List UInt8) (p : Option (List UInt8)) : Sd :=
  let D0 := x.em k (k + 1) q
  let D := if k = 0 then guardL x.c (x.st (x.nd 1)) (x.dv (x.nd 1)) D0 else D0
  let S := match p with
    | none => []
    | some p => x.em ((k : Int) - 1) (k + 1) p
  ⟨D, S, if x.st (x.nd (k + 1)) = 0 then [] else outL (decide (0 < k) || x.pair) D S, k + 1⟩

/-- What the node k steps on passed on, and the one ahead of it. -/
def Sp.out (x : Sp) : Nat → List UInt8 × Option (List UInt8)
  | 0 => (x.snd, if x.pair then some x.oth else none)
  | k + 1 => ((x.side k (x.out k).1 (x.out k).2).O, some (x.out k).1)

def Sp.sd (x : Sp) (k : Nat) : Sd := x.side k (x.out k).1 (x.out k).2
/-- What the node k steps on passes on. -/
def Sp.o (x : Sp) (k : Nat) : List UInt8 := (x.out k).1

theorem Sp.out_succ (x : Sp) (k : Nat) : x.out (k + 1) = ((x.sd k).O, some (x.o k)) := rfl
theorem Sp.o_zero (x : Sp) : x.o 0 = x.snd := rfl
theorem Sp.o_succ (x : Sp) (k : Nat) : x.o (k + 1) = (x.sd k).O := rfl
theorem Sp.sd_F (x : Sp) (k : Nat) : (x.sd k).F = (k : Int) + 1 := rfl
/-- The first one's direct copy. -/
theorem Sp.D_zero (x : Sp) : (x.sd 0).D = guardL x.c (x.st (x.nd 1)) (x.dv (x.nd 1)) (x.em 0 1 x.snd) := rfl
theorem Sp.D_succ (x : Sp) (k : Nat) : (x.sd (k + 1)).D = x.em ((k : Int) + 1) ((k : Int) + 1 + 1) (x.o (k + 1)) := by
  show x.em ((k + 1 : Nat) : Int) (((k + 1 : Nat) : Int) + 1) (x.o (k + 1)) = _
  rw [Int.natCast_add]; rfl
theorem Sp.S_zero (x : Sp) : (x.sd 0).S = if x.pair then x.em (-1) 1 x.oth else [] := by
  unfold Sp.sd Sp.side
  rw [show x.out 0 = (x.snd, if x.pair then some x.oth else none) from rfl]
  cases x.pair <;> rfl
theorem Sp.S_succ (x : Sp) (k : Nat) : (x.sd (k + 1)).S = x.em (k : Int) ((k : Int) + 1 + 1) (x.o k) := by
  show x.em (((k + 1 : Nat) : Int) - 1) (((k + 1 : Nat) : Int) + 1) (x.o k) = _
  rw [Int.natCast_add, show ((k : Int) + ((1 : Nat) : Int) - 1) = k by omega]; rfl
theorem Sp.O_zero (x : Sp) : (x.sd 0).O = if x.st (x.nd 1) = 0 then [] else outL x.pair (x.sd 0).D (x.sd 0).S := by
  show (if x.st (x.nd (((0 : Nat) : Int) + 1)) = 0 then [] else outL (decide (0 < 0) || x.pair) (x.sd 0).D (x.sd 0).S) = _
  simp
theorem Sp.O_succ (x : Sp) (k : Nat) : (x.sd (k + 1)).O = if x.st (x.nd ((k : Int) + 1 + 1)) = 0 then [] else outL true (x.sd (k + 1)).D (x.sd (k + 1)).S := by
  show (if x.st (x.nd (((k + 1 : Nat) : Int) + 1)) = 0 then [] else outL (decide (0 < k + 1) || x.pair) (x.sd (k + 1)).D (x.sd (k + 1)).S) = _
  rw [Int.natCast_add, show decide (0 < k + 1) = true by simp]; rfl

/-- What is passed on is a stream. -/
theorem Sp.o_clean (x : Sp) (h : clean x.snd = x.snd) (k : Nat) : clean (x.o k) = x.o k := by
  cases k with
  | zero => exact h
  | succ k =>
    rw [Sp.o_succ]
    unfold Sp.sd Sp.side
    dsimp only
    split
    · rfl
    · exact clean_out _ _ _

/-- A link that the locus does not hit leaves what goes by. -/
theorem Sp.em_same (x : Sp) (a b : Int) (l : List UInt8) (hc : clean l = l) (h : hitsB x.c x.f (x.nd a) (x.nd b) = false ∨ x.f.To ≤ x.r) : x.em a b l = l := by
  unfold Sp.em emitL
  rw [if_pos h, hc]

theorem Sp.em_clean (x : Sp) (a b : Int) (l : List UInt8) : clean (x.em a b l) = x.em a b l := clean_idem _

/-- Compared: a front of both. -/
theorem out_pre (D S s : List UInt8) (h : frontB D s = true) : frontB (outL true D S) s = true :=
  front_trans (out_front D S) h
theorem out_pre2 (D S s : List UInt8) (h : frontB S s = true) : frontB (outL true D S) s = true :=
  front_trans (out_front2 D S) h
theorem front_nil (s : List UInt8) : frontB [] s = true := rfl
theorem front_refl (s : List UInt8) : frontB s s = true := by unfold frontB; rw [List.isPrefixOf_iff_prefix]; exact List.prefix_refl s

theorem guard_yes (c : Cf) (st dev : Int) (s : List UInt8) (h : admitB c st dev = true) : guardL c st dev s = s := by unfold guardL; rw [h]; rfl
theorem guard_no (c : Cf) (st dev : Int) (s : List UInt8) (h : admitB c st dev = false) : guardL c st dev s = [] := by unfold guardL; rw [h]; rfl
theorem guard_front (c : Cf) (st dev : Int) (s t : List UInt8) (h : frontB s t = true) : frontB (guardL c st dev s) t = true := by
  unfold guardL; split
  · exact h
  · exact front_nil t

/-- Where no link ahead is hit, and all are on, and the first one lets it in, all is passed on. -/
theorem Sp.calm (x : Sp) (m : Nat) (hp : x.pair = false) (hs : clean x.snd = x.snd) (hon : ∀ k : Nat, k < m → x.st (x.nd (k + 1)) ≠ 0) (hg : 0 < m → admitB x.c (x.st (x.nd 1)) (x.dv (x.nd 1)) = true)
    (h1 : ∀ k : Nat, k < m → hitsB x.c x.f (x.nd k) (x.nd (k + 1)) = false ∨ x.f.To ≤ x.r) (h2 : ∀ k : Nat, k + 1 < m → hitsB x.c x.f (x.nd k) (x.nd (k + 1 + 1)) = false ∨ x.f.To ≤ x.r) :
    ∀ k : Nat, k ≤ m → x.o k = x.snd := by
  intro k
  induction k using Nat.strongRecOn with
  | ind k ih =>
    intro hk
    match k with
    | 0 => rfl
    | 1 =>
      rw [Sp.o_succ, Sp.O_zero, if_neg (by have := hon 0 (by omega); simpa using this), hp, Sp.D_zero, guard_yes _ _ _ _ (hg (by omega)), outL_false, Sp.em_same x 0 1 _ hs (by have := h1 0 (by omega); simpa using this)]
      exact hs
    | k + 2 =>
      have e1 := ih (k + 1) (by omega) (by omega)
      have e2 := ih k (by omega) (by omega)
      have a1 := h1 (k + 1) (by omega)
      rw [Int.natCast_succ] at a1
      have a0 := hon (k + 1) (by omega)
      rw [Int.natCast_succ] at a0
      rw [Sp.o_succ, Sp.O_succ, if_neg a0, Sp.D_succ, Sp.S_succ, e1, e2, Sp.em_same x _ _ _ hs a1, Sp.em_same x _ _ _ hs (h2 k (by omega)), out_self]
      exact hs

end Plait
/-
  Rows of sides as a call has them in hand: what each place holds; the slot's walk, step by step, as the programs have it.
-/
namespace Go.Proofs.YthhmedlefahccaaGreatDoor
open Go.RowKit Plait
set_option maxRecDepth 100000
set_option linter.unusedVariables false

/-- A row's cells hold these sides. -/
def SdM (M : Array Value) (n : Nat) (g : Nat → Sd) : Prop :=
  M.size = n * 4 ∧ ∀ i, i < n → M[i * 4]? = some (.string ⟨(g i).D.toArray⟩) ∧ M[i * 4 + 1]? = some (.string ⟨(g i).S.toArray⟩) ∧ M[i * 4 + 2]? = some (.string ⟨(g i).O.toArray⟩) ∧ M[i * 4 + 3]? = some (.int .i64 (g i).F)
/-- These marks. -/
def KnM (M : Array Value) (n : Nat) (k : Nat → Bool) : Prop := M.size = n ∧ ∀ i, i < n → M[i]? = some (.bool (k i))

/-- A slice of texts, as it lies in memory. -/
def RowS (w : World) (a : Option Addr) (ls : List (List UInt8)) : Prop :=
  ls.length ≤ 9223372036854775807 ∧
  (ls = [] ∨ ∃ b off : Nat, a = some ⟨b, off, none⟩ ∧ b < w.heap.size ∧ ∀ i (h : i < ls.length), w.cell? ⟨b, off + i, none⟩ = some (.string ⟨ls[i].toArray⟩))
theorem RowS.later {w w1 : World} {a : Option Addr} {ls : List (List UInt8)} (h : RowS w a ls) (hb : Below w.heap.size w w1) : RowS w1 a ls := by
  obtain ⟨h1, h3⟩ := h
  refine ⟨h1, ?_⟩
  rcases h3 with h3 | ⟨b, off, e, hlt, hc⟩
  · exact .inl h3
  · exact .inr ⟨b, off, e, Nat.lt_of_lt_of_le hlt hb.size, fun i hi => by rw [hb.cell (p := ⟨b, off + i, none⟩) hlt]; exact hc i hi⟩
theorem RowS.get {w : World} {a : Option Addr} {ls : List (List UInt8)} (h : RowS w a ls) (k : Nat) (hk : k < ls.length) :
    ∃ b off : Nat, a = some ⟨b, off, none⟩ ∧ b < w.heap.size ∧ w.cell? ⟨b, off + k, none⟩ = some (.string ⟨ls[k].toArray⟩) := by
  obtain ⟨_, h3⟩ := h
  rcases h3 with h3 | ⟨b, off, e, hlt, hc⟩
  · rw [h3] at hk; simp at hk
  · exact ⟨b, off, e, hlt, hc k hk⟩

def updN {α : Type} (g : Nat → α) (j : Nat) (v : α) : Nat → α := fun i => if i = j then v else g i
theorem updN_same {α : Type} (g : Nat → α) (j : Nat) (v : α) : updN g j v j = v := by simp [updN]
theorem updN_other {α : Type} (g : Nat → α) (j i : Nat) (v : α) (h : i ≠ j) : updN g j v i = g i := by simp [updN, h]

theorem KnM.set {M : Array Value} {n : Nat} {k : Nat → Bool} (h : KnM M n k) (j : Nat) (hj : j < n) (v : Bool) : KnM (M.setIfInBounds j (.bool v)) n (updN k j v) := by
  refine ⟨by simpa using h.1, fun i hi => ?_⟩
  rw [Array.getElem?_setIfInBounds]
  by_cases e : j = i
  · subst e
    rw [if_pos rfl, if_pos (by have := h.1; omega), updN_same]
  · rw [if_neg e, updN_other _ _ _ _ (fun q => e q.symm)]
    exact h.2 i hi

/-- One output laid. -/
theorem SdM.setO {M : Array Value} {n : Nat} {g : Nat → Sd} (h : SdM M n g) (j : Nat) (hj : j < n) (v : List UInt8) : SdM (M.setIfInBounds (j * 4 + 2) (.string ⟨v.toArray⟩)) n (updN g j { g j with O := v }) := by
  obtain ⟨hs, hc⟩ := h
  refine ⟨by simpa using hs, fun i hi => ?_⟩
  obtain ⟨c0, c1, c2, c3⟩ := hc i hi
  simp only [Array.getElem?_setIfInBounds]
  by_cases e : i = j
  · subst e
    rw [if_neg (by omega), if_neg (by omega), if_pos rfl, if_pos (by omega), if_neg (by omega), updN_same]
    exact ⟨c0, c1, rfl, c3⟩
  · rw [if_neg (by omega), if_neg (by omega), if_neg (by omega), if_neg (by omega), updN_other _ _ _ _ e]
    exact ⟨c0, c1, c2, c3⟩

/-- The slot's first state: what the owners send. -/
def iniG (os : List Int) (sends : List (List UInt8)) : Nat → (Nat → Sd) × (Nat → Bool)
  | 0 => (fun _ => zeroSd, fun _ => false)
  | i + 1 => (updN (iniG os sends i).1 (os.getD i 0).toNat { (iniG os sends i).1 (os.getD i 0).toNat with O := sends.getD i [] }, updN (iniG os sends i).2 (os.getD i 0).toNat true)

/-- The side of node j, the k-th on the way. -/
def sideG (c : Cf) (f : Fa) (r s d : Int) (st dv : List Int) (k : Nat) (j : Int) (G : (Nat → Sd) × (Nat → Bool)) : Sd :=
  let near := ((j - d) % c.N); let far := ((j - 2 * d) % c.N)
  let D0 := clean (emitL c f r s near j (G.1 near.toNat).O)
  let D := if k = 0 then guardL c (st.getD j.toNat 0) (dv.getD j.toNat 0) D0 else D0
  let S := if G.2 far.toNat then clean (emitL c f r s far j (G.1 far.toNat).O) else []
  ⟨D, S, if st.getD j.toNat 0 = 0 then [] else outL (decide (0 < k) || decide (c.N ≤ s)) D S, k + 1⟩

theorem sideG_eq (c : Cf) (f : Fa) (r s d : Int) (st dv : List Int) (k j nr fr : Nat) (G : (Nat → Sd) × (Nat → Bool)) (h1 : ((j : Int) - d) % c.N = nr) (h2 : ((j : Int) - 2 * d) % c.N = fr) (D0 D S O : List UInt8) (F : Int)
    (e0 : clean (emitL c f r s nr j (G.1 nr).O) = D0) (e1 : (if k = 0 then guardL c (st.getD j 0) (dv.getD j 0) D0 else D0) = D) (e2 : (if G.2 fr then clean (emitL c f r s fr j (G.1 fr).O) else []) = S)
    (e3 : (if st.getD j 0 = 0 then [] else outL (decide (0 < k) || decide (c.N ≤ s)) D S) = O) (e4 : (k : Int) + 1 = F) : sideG c f r s d st dv k j G = ⟨D, S, O, F⟩ := by
  unfold sideG
  simp only [h1, h2, Int.toNat_natCast, e0, e1, e2, e3, e4]

/-- The state behind k nodes of the way. -/
def runG (c : Cf) (f : Fa) (r s d : Int) (sends : List (List UInt8)) (st dv : List Int) (way : List Int) : Nat → (Nat → Sd) × (Nat → Bool)
  | 0 => iniG (owners c s) sends (owners c s).length
  | k + 1 => let G := runG c f r s d sends st dv way k; let j := way.getD k 0
    (updN G.1 j.toNat (sideG c f r s d st dv k j G), updN G.2 j.toNat true)

/-- A row lies apart from two blocks. -/
def Apart (a : Option Addr) (zs : List Int) (g1 g2 : Nat) : Prop := zs = [] ∨ ∃ b off : Nat, a = some ⟨b, off, none⟩ ∧ b ≠ g1 ∧ b ≠ g2
theorem Row.keep {w : World} {a : Option Addr} {zs : List Int} {g1 g2 : Nat} (h : Row w a zs) (hp : Apart a zs g1 g2) (i : Nat) (u : Value) : Row (w.setCell ⟨g1, i, none⟩ u) a zs ∧ Row (w.setCell ⟨g2, i, none⟩ u) a zs := by
  rcases hp with rfl | ⟨b, off, rfl, n1, n2⟩
  · exact ⟨Row.empty _ _, Row.empty _ _⟩
  · exact ⟨h.far g1 i u (fun x hx => by injection hx with hx; rw [← hx]; exact n1), h.far g2 i u (fun x hx => by injection hx with hx; rw [← hx]; exact n2)⟩
theorem Apart.of {w : World} {a : Option Addr} {zs : List Int} (h : Row w a zs) (g1 g2 : Nat) (h1 : ∀ x, a = some x → g1 < x.block) (h2 : w.heap.size ≤ g2) : Apart a zs g1 g2 := by
  rcases h.2.2 with e | ⟨b, off, e, hlt, _⟩
  · exact .inl e
  · have := h1 _ e
    have h3 : g1 < b := this
    exact .inr ⟨b, off, e, by omega, by omega⟩

/-- What a slot's run has in memory: its boxes, the rows of sides and of marks. -/
structure RunM (c : Cf) (ca : Option Addr) (cc : Nat) (f : Fa) (fa : Option Addr) (fac : Nat) (fd : Option Addr) (fdc : Nat) (t : TypeId) (bo bk n : Nat) (w : World) (G : (Nat → Sd) × (Nat → Bool)) (W : World) : Prop where
  hB : Below w.heap.size w W
  hC : Blk W w.heap.size 24 (confBox c ca cc)
  hF : Blk W (w.heap.size + 1) 27 (faBox f fa fac fd fdc)
  lo : w.heap.size + 1 < bo
  ok : bo < bk
  o : ∃ M, Blk W bo t M ∧ SdM M n G.1
  k : ∃ K, Blk W bk 4 K ∧ KnM K n G.2

theorem RunM.later {c : Cf} {ca : Option Addr} {cc : Nat} {f : Fa} {fa : Option Addr} {fac : Nat} {fd : Option Addr} {fdc : Nat} {t : TypeId} {bo bk n : Nat} {w : World} {G : (Nat → Sd) × (Nat → Bool)} {W W' : World}
    (h : RunM c ca cc f fa fac fd fdc t bo bk n w G W) (hb : Below W.heap.size W W') : RunM c ca cc f fa fac fd fdc t bo bk n w G W' := by
  obtain ⟨M, q1, q2⟩ := h.o
  obtain ⟨K, p1, p2⟩ := h.k
  exact ⟨h.hB.trans (hb.mono h.hB.size), h.hC.later hb, h.hF.later hb, h.lo, h.ok, ⟨M, q1.later hb, q2⟩, ⟨K, p1.later hb, p2⟩⟩

theorem RunM.far {c : Cf} {ca : Option Addr} {cc : Nat} {f : Fa} {fa : Option Addr} {fac : Nat} {fd : Option Addr} {fdc : Nat} {t : TypeId} {bo bk n : Nat} {w : World} {G : (Nat → Sd) × (Nat → Bool)} {W : World}
    (h : RunM c ca cc f fa fac fd fdc t bo bk n w G W) (g i : Nat) (u : Value) (hg : bk < g) : RunM c ca cc f fa fac fd fdc t bo bk n w G (W.setCell ⟨g, i, none⟩ u) := by
  obtain ⟨M, q1, q2⟩ := h.o
  obtain ⟨K, p1, p2⟩ := h.k
  have h1 := h.lo; have h2 := h.ok
  exact ⟨h.hB.setCell (by show w.heap.size ≤ g; omega) _, h.hC.far (by show w.heap.size ≠ g; omega) _, h.hF.far (by show w.heap.size + 1 ≠ g; omega) _, h1, h2, ⟨M, q1.far (by show bo ≠ g; omega) _, q2⟩, ⟨K, p1.far (by show bk ≠ g; omega) _, p2⟩⟩

theorem RunM.setO {c : Cf} {ca : Option Addr} {cc : Nat} {f : Fa} {fa : Option Addr} {fac : Nat} {fd : Option Addr} {fdc : Nat} {t : TypeId} {bo bk n : Nat} {w : World} {G : (Nat → Sd) × (Nat → Bool)} {W : World}
    (h : RunM c ca cc f fa fac fd fdc t bo bk n w G W) (j : Nat) (hj : j < n) (v : List UInt8) : RunM c ca cc f fa fac fd fdc t bo bk n w (updN G.1 j { G.1 j with O := v }, G.2) (W.setCell ⟨bo, j * 4 + 2, none⟩ (.string ⟨v.toArray⟩)) := by
  obtain ⟨M, q1, q2⟩ := h.o
  obtain ⟨K, p1, p2⟩ := h.k
  have h1 := h.lo; have h2 := h.ok
  exact ⟨h.hB.setCell (by show w.heap.size ≤ bo; omega) _, h.hC.far (by show w.heap.size ≠ bo; omega) _, h.hF.far (by show w.heap.size + 1 ≠ bo; omega) _, h1, h2, ⟨_, q1.set _ _, q2.setO j hj v⟩, ⟨K, p1.far (by show bk ≠ bo; omega) _, p2⟩⟩

/-- A whole side laid. -/
theorem SdM.setAll {M : Array Value} {n : Nat} {g : Nat → Sd} (h : SdM M n g) (j : Nat) (hj : j < n) (v : Sd) :
    SdM ((((M.setIfInBounds (j * 4) (.string ⟨v.D.toArray⟩)).setIfInBounds (j * 4 + 1) (.string ⟨v.S.toArray⟩)).setIfInBounds (j * 4 + 2) (.string ⟨v.O.toArray⟩)).setIfInBounds (j * 4 + 3) (.int .i64 v.F)) n (updN g j v) := by
  obtain ⟨hs, hc⟩ := h
  refine ⟨by simpa using hs, fun i hi => ?_⟩
  obtain ⟨c0, c1, c2, c3⟩ := hc i hi
  simp only [Array.getElem?_setIfInBounds, Array.size_setIfInBounds]
  by_cases e : i = j
  · subst e
    rw [updN_same]
    refine ⟨?_, ?_, ?_, ?_⟩
    · rw [if_neg (by omega), if_neg (by omega), if_neg (by omega), if_pos rfl, if_pos (by omega)]
    · rw [if_neg (by omega), if_neg (by omega), if_pos rfl, if_pos (by omega)]
    · rw [if_neg (by omega), if_pos rfl, if_pos (by omega)]
    · rw [if_pos rfl, if_pos (by omega)]
  · rw [updN_other _ _ _ _ e]
    refine ⟨?_, ?_, ?_, ?_⟩
    · rw [if_neg (by omega), if_neg (by omega), if_neg (by omega), if_neg (by omega)]; exact c0
    · rw [if_neg (by omega), if_neg (by omega), if_neg (by omega), if_neg (by omega)]; exact c1
    · rw [if_neg (by omega), if_neg (by omega), if_neg (by omega), if_neg (by omega)]; exact c2
    · rw [if_neg (by omega), if_neg (by omega), if_neg (by omega), if_neg (by omega)]; exact c3

theorem RunM.setAll {c : Cf} {ca : Option Addr} {cc : Nat} {f : Fa} {fa : Option Addr} {fac : Nat} {fd : Option Addr} {fdc : Nat} {t : TypeId} {bo bk n : Nat} {w : World} {G : (Nat → Sd) × (Nat → Bool)} {W : World}
    (h : RunM c ca cc f fa fac fd fdc t bo bk n w G W) (j : Nat) (hj : j < n) (v : Sd) : RunM c ca cc f fa fac fd fdc t bo bk n w (updN G.1 j v, G.2)
      ((((W.setCell ⟨bo, j * 4, none⟩ (.string ⟨v.D.toArray⟩)).setCell ⟨bo, j * 4 + 1, none⟩ (.string ⟨v.S.toArray⟩)).setCell ⟨bo, j * 4 + 2, none⟩ (.string ⟨v.O.toArray⟩)).setCell ⟨bo, j * 4 + 3, none⟩ (.int .i64 v.F)) := by
  obtain ⟨M, q1, q2⟩ := h.o
  obtain ⟨K, p1, p2⟩ := h.k
  have h1 := h.lo; have h2 := h.ok
  have a0 : w.heap.size ≤ bo := by omega
  have a1 : w.heap.size ≠ bo := by omega
  have a2 : w.heap.size + 1 ≠ bo := by omega
  have a3 : bk ≠ bo := by omega
  exact ⟨(((h.hB.setCell a0 _).setCell a0 _).setCell a0 _).setCell a0 _, (((h.hC.far a1 _).far a1 _).far a1 _).far a1 _, (((h.hF.far a2 _).far a2 _).far a2 _).far a2 _, h1, h2,
    ⟨_, (((q1.set _ _).set _ _).set _ _).set _ _, q2.setAll j hj v⟩, ⟨K, (((p1.far a3 _).far a3 _).far a3 _).far a3 _, p2⟩⟩

theorem RunM.setK {c : Cf} {ca : Option Addr} {cc : Nat} {f : Fa} {fa : Option Addr} {fac : Nat} {fd : Option Addr} {fdc : Nat} {t : TypeId} {bo bk n : Nat} {w : World} {G : (Nat → Sd) × (Nat → Bool)} {W : World}
    (h : RunM c ca cc f fa fac fd fdc t bo bk n w G W) (j : Nat) (hj : j < n) (v : Bool) : RunM c ca cc f fa fac fd fdc t bo bk n w (G.1, updN G.2 j v) (W.setCell ⟨bk, j, none⟩ (.bool v)) := by
  obtain ⟨M, q1, q2⟩ := h.o
  obtain ⟨K, p1, p2⟩ := h.k
  have h1 := h.lo; have h2 := h.ok
  exact ⟨h.hB.setCell (by show w.heap.size ≤ bk; omega) _, h.hC.far (by show w.heap.size ≠ bk; omega) _, h.hF.far (by show w.heap.size + 1 ≠ bk; omega) _, h1, h2, ⟨M, q1.far (by show bo ≠ bk; omega) _, q2⟩, ⟨_, p1.set _ _, p2.set j hj v⟩⟩

end Go.Proofs.YthhmedlefahccaaGreatDoor
/-
  Contracts of package guard: the window, the rule, whether a stream comes in, and the stream.
-/
namespace Go.Proofs.YthhmedlefahccaaGreatDoor
open Go.RowKit Plait
set_option maxRecDepth 100000
set_option linter.unusedVariables false

theorem gdholds_any (wd dev : Int) (w : World) (h0 : 0 ≤ wd) (h1 : wd ≤ 20000) :
    Calls Tryz.prog 129 #[.int .i64 wd, .int .i64 dev] w fun e w' => e = .returned (.bool (decide (-wd ≤ dev) && decide (dev ≤ wd))) ∧ w = w' := by
  by_cases g1 : -wd ≤ dev
  · have d1 : decide (-wd ≤ dev) = true := by simpa using g1
    go_enter Tryz.func129, Tryz.ntmps129
    go_wp2
    go_ret
    exact ⟨ret_bool (by first | rfl | (rw [d1]; rfl) | (rw [d1]; simp)), rfl⟩
  · have d1 : decide (-wd ≤ dev) = false := by simpa using g1
    go_enter Tryz.func129, Tryz.ntmps129
    go_wp2
    go_ret
    exact ⟨ret_bool (by first | rfl | (rw [d1]; rfl) | (rw [d1]; simp)), rfl⟩

theorem gdany_any (dev : Int) (w : World) :
    Calls Tryz.prog 130 #[.int .i64 dev] w fun e w' => e = .returned (.bool true) ∧ w = w' := by
  go_enter Tryz.func130, Tryz.ntmps130
  go_wp2
  go_ret
  exact ⟨rfl, rfl⟩

set_option maxHeartbeats 800000 in
theorem gdrule_t (c : Cf) (ca : Option Addr) (cc : Nat) (w : World) (hc : c.Ok) :
    Calls Tryz.prog 118 #[.agg #[.int .i64 c.N, .int .i64 c.Pi, .int .i64 c.E, .int .i64 c.G, .int .i64 c.F, .slice ca c.P.length cc], .int .i64 4] w fun e w' => e = .returned (.func (.func 129) #[.int .i64 (windowI c)] #[]) ∧ Below w.heap.size w w' := by
  have hB := alloc_below w (.cells #[.int .i64 c.N, .int .i64 c.Pi, .int .i64 c.E, .int .i64 c.G, .int .i64 c.F, .slice ca c.P.length cc] 24)
  have HW := Lib.hid (fun W => cwindow_any c ca cc W hc)
  generalize windowI c = wd at *
  go_enter Tryz.func118, Tryz.ntmps118
  go_wp2_with fail
  refine (HW.out _).mono ?_
  rintro e wn ⟨rfl, hb⟩
  go_wp2
  go_ret
  exact ⟨rfl, hB.trans (hb.mono hB.size)⟩

theorem gdrule_f (c : Cf) (ca : Option Addr) (cc : Nat) (st : Int) (w : World) (hs : st ≠ 4) :
    Calls Tryz.prog 118 #[.agg #[.int .i64 c.N, .int .i64 c.Pi, .int .i64 c.E, .int .i64 c.G, .int .i64 c.F, .slice ca c.P.length cc], .int .i64 st] w fun e w' => e = .returned (.func (.func 130) #[] #[]) ∧ Below w.heap.size w w' := by
  have hB := alloc_below w (.cells #[.int .i64 c.N, .int .i64 c.Pi, .int .i64 c.E, .int .i64 c.G, .int .i64 c.F, .slice ca c.P.length cc] 24)
  have d0 : (st == 4) = false := by simpa using hs
  clear hs
  go_enter Tryz.func118, Tryz.ntmps118
  go_wp2
  go_ret
  exact ⟨rfl, hB⟩

set_option maxHeartbeats 800000 in
theorem gAdmits_any (c : Cf) (ca : Option Addr) (cc : Nat) (st dev : Int) (w : World) (hc : c.Ok) :
    Calls Tryz.prog 111 #[.agg #[.int .i64 c.N, .int .i64 c.Pi, .int .i64 c.E, .int .i64 c.G, .int .i64 c.F, .slice ca c.P.length cc], .int .i64 st, .int .i64 dev] w fun e w' => e = .returned (.bool (admitB c st dev)) ∧ Below w.heap.size w w' := by
  have h1 := hc.p0; have h2 := hc.p1; have h3 := hc.e0; have h4 := hc.g0
  have hB := alloc_below w (.cells #[.int .i64 c.N, .int .i64 c.Pi, .int .i64 c.E, .int .i64 c.G, .int .i64 c.F, .slice ca c.P.length cc] 24)
  have hX : admitB c st dev = (st != 4 || (decide (-windowI c ≤ dev) && decide (dev ≤ windowI c))) := rfl
  have hwn : windowI c = 2 * c.Pi := rfl
  have z1 : 0 ≤ windowI c := by omega
  have z2 : windowI c ≤ 20000 := by omega
  by_cases hs : st = 4
  · subst hs
    have HX := Lib.hid (hX.trans (by simp) : admitB c 4 dev = (decide (-windowI c ≤ dev) && decide (dev ≤ windowI c)))
    have HR := Lib.hid (gdrule_t c ca cc (hc := hc))
    have HH := Lib.hid (gdholds_any (windowI c) dev (h0 := z1) (h1 := z2))
    clear hX hwn z1 z2
    generalize windowI c = wd at *
    go_enter Tryz.func111, Tryz.ntmps111
    go_wp2_with fail
    refine (HR.out _).mono ?_
    rintro e wn ⟨rfl, hb⟩
    go_wp2_with fail
    refine (HH.out _).mono ?_
    rintro e wl ⟨rfl, rfl⟩
    go_wp2
    go_ret
    exact ⟨ret_bool HX.out.symm, hB.trans (hb.mono hB.size)⟩
  · have d0 : (st != 4) = true := by simpa using hs
    have HX := Lib.hid (hX.trans (by rw [d0]; rfl) : admitB c st dev = true)
    have HR := Lib.hid (fun W => gdrule_f c ca cc st W hs)
    clear hX hs d0
    go_enter Tryz.func111, Tryz.ntmps111
    go_wp2_with fail
    refine (HR.out _).mono ?_
    rintro e wn ⟨rfl, hb⟩
    go_wp2_with fail
    refine (gdany_any dev _).mono ?_
    rintro e wl ⟨rfl, rfl⟩
    go_wp2
    go_ret
    exact ⟨ret_bool HX.out.symm, hB.trans (hb.mono hB.size)⟩

theorem gStream_any (c : Cf) (ca : Option Addr) (cc : Nat) (st dev : Int) (s : List UInt8) (w : World) (hc : c.Ok) (hl : s.length ≤ 1099511627776) :
    Calls Tryz.prog 104 #[.agg #[.int .i64 c.N, .int .i64 c.Pi, .int .i64 c.E, .int .i64 c.G, .int .i64 c.F, .slice ca c.P.length cc], .int .i64 st, .int .i64 dev, .string ⟨s.toArray⟩] w fun e w' => e = .returned (.string ⟨(guardL c st dev s).toArray⟩) ∧ Below w.heap.size w w' := by
  have hB := alloc_below w (.cells #[.int .i64 c.N, .int .i64 c.Pi, .int .i64 c.E, .int .i64 c.G, .int .i64 c.F, .slice ca c.P.length cc] 24)
  have HA := Lib.hid (fun W => gAdmits_any c ca cc st dev W hc)
  cases hg : admitB c st dev
  · rw [guard_no _ _ _ _ hg]
    rw [hg] at HA
    clear hg
    go_enter Tryz.func104, Tryz.ntmps104
    go_wp2_with fail
    refine (HA.out _).mono ?_
    rintro e wn ⟨rfl, hb⟩
    go_wp2
    go_ret
    exact ⟨rfl, hB.trans (hb.mono hB.size)⟩
  · rw [guard_yes _ _ _ _ hg]
    rw [hg] at HA
    clear hg
    go_enter Tryz.func104, Tryz.ntmps104
    go_wp2_with fail
    refine (HA.out _).mono ?_
    rintro e wn ⟨rfl, hb⟩
    replace hB := hB.trans (hb.mono hB.size)
    clear hb
    go_wp2_with fail
    refine (clone_any _ _ (by rw [size_mk]; omega)).mono ?_
    rintro e wn2 ⟨rfl, hb⟩
    go_wp2
    go_ret
    exact ⟨rfl, hB.trans (hb.mono hB.size)⟩

end Go.Proofs.YthhmedlefahccaaGreatDoor
/-
  Contracts of package lane: what each call answers, for every input; a step changes its own relay alone.
-/
namespace Go.Proofs.YthhmedlefahccaaGreatDoor
open Go.RowKit Plait
set_option maxRecDepth 100000
set_option linter.unusedVariables false

/-- A rune below 256 as a text. -/
def encL (c : UInt8) : List UInt8 := if c.toNat < 128 then [c] else [UInt8.ofNat (192 + c.toNat / 64), UInt8.ofNat (128 + c.toNat % 64)]

theorem enc_fin : ∀ n : Fin 256, Utf8.encode (n.val : Int) = ⟨(encL (UInt8.ofNat n.val)).toArray⟩ := by decide +kernel
theorem enc_eq (c : UInt8) : Utf8.encode (c.toNat : Int) = ⟨(encL c).toArray⟩ := by
  have h := enc_fin ⟨c.toNat, c.toNat_lt⟩
  simpa using h

theorem encClean_fin : ∀ n : Fin 256, (clean (encL (UInt8.ofNat n.val)) == []) = !symB (UInt8.ofNat n.val) := by decide +kernel
theorem encClean (c : UInt8) : (clean (encL c) == []) = !symB c := by
  have h := encClean_fin ⟨c.toNat, c.toNat_lt⟩
  simpa using h

theorem encWhole_fin : ∀ n : Fin 256, wholeB (encL (UInt8.ofNat n.val)) = (UInt8.ofNat n.val == 35) := by decide +kernel
theorem encWhole (c : UInt8) : wholeB (encL c) = (c == 35) := by
  have h := encWhole_fin ⟨c.toNat, c.toNat_lt⟩
  simpa using h

theorem encL_len (c : UInt8) : (encL c).length ≤ 2 := by unfold encL; split <;> simp

theorem lisSymbol_any (c : UInt8) (w : World) :
    Calls Tryz.prog 116 #[.int .i32 c.toNat] w fun e w' => e = .returned (.bool (symB c)) ∧ Below w.heap.size w w' := by
  have he := enc_eq c
  have hl := encL_len c
  have hc := encClean c
  go_enter Tryz.func116, Tryz.ntmps116
  go_wp2_with fail
  refine (clean_any _ _ (by omega)).mono ?_
  rintro e w2 ⟨rfl, hb⟩
  go_wp2
  go_ret
  exact ⟨rfl, hb⟩

theorem lisTail_any (c : UInt8) (w : World) :
    Calls Tryz.prog 101 #[.int .i32 c.toNat] w fun e w' => e = .returned (.bool (c == 35)) ∧ Below w.heap.size w w' := by
  have he := enc_eq c
  have hl := encL_len c
  have hc := encWhole c
  go_enter Tryz.func101, Tryz.ntmps101
  go_wp2_with fail
  refine (whole_any _ _ (by omega)).mono ?_
  rintro e w2 ⟨rfl, hb⟩
  rw [hc]
  go_wp2
  go_ret
  exact ⟨rfl, hb⟩

theorem lisSent_any (d s : UInt8) (w : World) :
    Calls Tryz.prog 109 #[.agg #[.int .i32 d.toNat, .int .i32 s.toNat]] w fun e w' => e = .returned (.bool (symB d)) ∧ Below w.heap.size w w' := by
  have hB : Below w.heap.size w w := Below.refl _ _
  go_enter Tryz.func109, Tryz.ntmps109
  go_wp2_with fail
  refine (lisSymbol_any d _).mono ?_
  rintro e w2 ⟨rfl, hb⟩
  go_wp2
  go_ret
  exact ⟨rfl, (alloc_below w _).trans (hb.mono (alloc_below w _).size)⟩

theorem lisAgreed_any (d s : UInt8) (w : World) :
    Calls Tryz.prog 108 #[.agg #[.int .i32 d.toNat, .int .i32 s.toNat]] w fun e w' => e = .returned (.bool (symB d && d == s)) ∧ Below w.heap.size w w' := by
  have hK : Blk (w.alloc (.cells #[.int .i32 d.toNat, .int .i32 s.toNat] 143)) w.heap.size 143 #[.int .i32 d.toNat, .int .i32 s.toNat] := Blk.new w _ _
  cases hs : symB d
  · go_enter Tryz.func108, Tryz.ntmps108
    go_wp2_with fail
    refine (lisSent_any d s _).mono ?_
    rintro e w2 ⟨rfl, hb⟩
    rw [hs]
    go_wp2
    go_ret
    exact ⟨rfl, (alloc_below w _).trans (hb.mono (alloc_below w _).size)⟩
  · have hd : ((s.toNat : Int) == (d.toNat : Int)) = (d == s) := by
      rw [Bool.eq_iff_iff, beq_iff_eq, beq_iff_eq]
      constructor
      · intro h; exact (UInt8.toNat_inj.1 (by omega)).symm
      · rintro rfl; rfl
    go_enter Tryz.func108, Tryz.ntmps108
    go_wp2_with fail
    refine (lisSent_any d s _).mono ?_
    rintro e w2 ⟨rfl, hb⟩
    rw [hs]
    have hK2 := (hK.later hb).at
    clear hK
    go_wp2
    go_ret
    exact ⟨rfl, (alloc_below w _).trans (hb.mono (alloc_below w _).size)⟩

def ruleF (cmp : Bool) : Nat := if cmp then 108 else 109

theorem lrule_any (g : Nat) (cmp over : Bool) (w : World) (hK : Blk w g 141 #[.bool cmp, .bool over]) :
    Calls Tryz.prog 100 #[.pointer (some ⟨g, 0, none⟩)] w fun e w' => e = .returned (.func (.func (ruleF cmp)) #[] #[]) ∧ w = w' := by
  have hq := hK.at
  cases cmp
  · go_enter Tryz.func100, Tryz.ntmps100
    go_wp2
    go_ret
    exact ⟨rfl, rfl⟩
  · go_enter Tryz.func100, Tryz.ntmps100
    go_wp2
    go_ret
    exact ⟨rfl, rfl⟩

theorem lNew_any (cmp : Bool) (w : World) :
    Calls Tryz.prog 89 #[.bool cmp] w fun e w' => e = .returned (.pointer (some ⟨w.heap.size, 0, none⟩)) ∧ w' = w.alloc (.cells #[.bool cmp, .bool false] 141) := by
  go_enter Tryz.func89, Tryz.ntmps89
  go_wp2
  go_ret
  exact ⟨rfl, rfl⟩

theorem lat_any (l : List UInt8) (i : Nat) (w : World) (hs : l.length ≤ 1099511627776) (hi : i ≤ 1099511627776) :
    Calls Tryz.prog 91 #[.string ⟨l.toArray⟩, .int .i64 i] w fun e w' => e = .returned (.int .u8 (padL l i).toNat) ∧ w = w' := by
  by_cases h : i < l.length
  · have d1 : decide (i < l.length) = true := by simpa using h
    have hp := padL_in l i h
    rw [hp]
    go_enter Tryz.func91, Tryz.ntmps91
    go_wp2
    go_ret
    exact ⟨rfl, rfl⟩
  · have d1 : decide (i < l.length) = false := by simpa using h
    have hp := padL_out l i h
    rw [hp]
    clear hp
    go_enter Tryz.func91, Tryz.ntmps91
    go_wp2
    go_ret
    exact ⟨rfl, rfl⟩

end Go.Proofs.YthhmedlefahccaaGreatDoor

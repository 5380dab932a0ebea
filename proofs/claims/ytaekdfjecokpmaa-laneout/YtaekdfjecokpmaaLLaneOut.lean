/-
  The walk of LaneOut: it answers true, for all rows of numbers and texts.
-/
import Derived.Test.YtaekdfjecokpmaaLaw70
import Derived.Deep.RegionHeld3
namespace Go.Proofs.Ytaekdfjecokpmaa
open Go.RowKit Plait
set_option maxRecDepth 100000
set_option linter.unusedVariables false

/-- A loop over the row of texts: the row stays. -/
def Upto7 (n : Nat) (w1 : World) (i : Value) (w' : World) : Prop := ∃ k : Nat, k ≤ n ∧ i = .int .i64 k ∧ Below w1.heap.size w1 w'

theorem five7 (w : World) (x0 x1 x2 x3 x4 : Value) (t : TypeId) (k : Nat) (h : k < 5) : (w.alloc (.cells #[x0, x1, x2, x3, x4] t)).cell? ⟨w.heap.size, k, none⟩ = some ([x0, x1, x2, x3, x4].getD k x0) := by
  rw [World.cell?_alloc_mark]
  have h' : k = 0 ∨ k = 1 ∨ k = 2 ∨ k = 3 ∨ k = 4 := by omega
  rcases h' with rfl | rfl | rfl | rfl | rfl <;> rfl

theorem keep7 {w1 W wm : World} {B k k2 : Nat} {v v2 : Value} (hlt : B < w1.heap.size) (h : W.cell? ⟨B, k, none⟩ = some v ∧ W.cell? ⟨B, k2, none⟩ = some v2 ∧ Below w1.heap.size w1 W) (hbm : Below W.heap.size W wm) : wm.cell? ⟨B, k, none⟩ = some v ∧ wm.cell? ⟨B, k2, none⟩ = some v2 ∧ Below w1.heap.size w1 wm :=
  ⟨by rw [hbm.cell (p := ⟨B, k, none⟩) (Nat.lt_of_lt_of_le hlt h.2.2.size)]; exact h.1, by rw [hbm.cell (p := ⟨B, k2, none⟩) (Nat.lt_of_lt_of_le hlt h.2.2.size)]; exact h.2.1, h.2.2.trans (hbm.mono h.2.2.size)⟩

set_option maxHeartbeats 4000000 in
theorem laneOut_walk (a0 : Option Addr) (z0 : List Int) (cap0 : Nat) (a1 : Option Addr) (z1 : List Int) (cap1 : Nat) (a2 : Option Addr) (z2 : List Int) (cap2 : Nat) (R : List UInt8) (cmp : Bool) (w : World) (r0 : Row w a0 z0) (r1 : Row w a1 z1) (r2 : Row w a2 z2) (hR : R.length ≤ 9223372036854775807) :
    Calls Try.prog 3 #[.slice a0 z0.length cap0, .slice a1 z1.length cap1, .slice a2 z2.length cap2, .string ⟨R.toArray⟩, .bool cmp] w fun e w' => e = .returned (.bool true) ∧ Below w.heap.size w w' := by
  have hB : Below w.heap.size w w := Below.refl _ _
  have l0 := textL_length z0
  have l1 := textL_length z1
  have l2 := textL_length z2
  by_cases h200 : 200 < R.length
  · have d : decide ((200 : Int) < (R.length : Int)) = true := by simp; omega
    go_enter Try.func3, Try.ntmps3
    go_wp2_with fail
    refine (known7_any _).mono ?_
    rintro e wn ⟨rfl, hb⟩
    go_wp2
    go_ret
    exact ⟨rfl, hb⟩
  have d : decide ((200 : Int) < (R.length : Int)) = false := by simp; omega
  go_enter Try.func3, Try.ntmps3
  go_wp2_with fail
  refine (known7_any _).mono ?_
  rintro e wn ⟨rfl, hb⟩
  replace hB := hB.trans (hb.mono hB.size)
  clear hb
  go_wp2_with fail
  refine (text_any a2 z2 cap2 _ (r2.later hB)).mono ?_
  rintro e wn ⟨rfl, hb⟩
  replace hB := hB.trans (hb.mono hB.size)
  clear hb
  go_wp2_with fail
  refine (text_any a0 z0 cap0 _ (r0.later hB)).mono ?_
  rintro e wn ⟨rfl, hb⟩
  replace hB := hB.trans (hb.mono hB.size)
  clear hb
  go_wp2_with fail
  refine (text_any a1 z1 cap1 _ (r1.later hB)).mono ?_
  rintro e wn ⟨rfl, hb⟩
  replace hB := hB.trans (hb.mono hB.size)
  clear hb
  clear r0 r1 r2
  generalize textL z0 = N at *
  generalize textL z1 = M at *
  generalize textL z2 = K at *
  go_upto_region 7 with fail
  have lA : (K ++ N).length ≤ 280 := by simp; omega
  have lB : (K ++ M).length ≤ 280 := by simp; omega
  generalize K ++ N = A1 at *
  generalize K ++ M = A2 at *
  have hB1 : Below w.heap.size w (wn.alloc (.cells #[Value.string ⟨A1.toArray⟩, Value.string ⟨A2.toArray⟩, Value.string ⟨R.toArray⟩, Value.string ⟨K.toArray⟩, Value.string ⟨#[]⟩] 9)) := hB.alloc hB.size _
  have hc : ∀ k, k < 5 → ∃ L : List UInt8, L.length ≤ 280 ∧ (wn.alloc (.cells #[Value.string ⟨A1.toArray⟩, Value.string ⟨A2.toArray⟩, Value.string ⟨R.toArray⟩, Value.string ⟨K.toArray⟩, Value.string ⟨#[]⟩] 9)).cell? ⟨wn.heap.size, k, none⟩ = some (.string ⟨L.toArray⟩) := by
    intro k hk
    rw [five7 wn _ _ _ _ _ _ k hk]
    have h' : k = 0 ∨ k = 1 ∨ k = 2 ∨ k = 3 ∨ k = 4 := by omega
    rcases h' with rfl | rfl | rfl | rfl | rfl
    · exact ⟨A1, by omega, rfl⟩
    · exact ⟨A2, by omega, rfl⟩
    · exact ⟨R, by omega, rfl⟩
    · exact ⟨K, by omega, rfl⟩
    · exact ⟨[], by simp, rfl⟩
  have hlt : wn.heap.size < (wn.alloc (.cells #[Value.string ⟨A1.toArray⟩, Value.string ⟨A2.toArray⟩, Value.string ⟨R.toArray⟩, Value.string ⟨K.toArray⟩, Value.string ⟨#[]⟩] 9)).heap.size := by simp
  generalize wn.alloc (.cells #[Value.string ⟨A1.toArray⟩, Value.string ⟨A2.toArray⟩, Value.string ⟨R.toArray⟩, Value.string ⟨K.toArray⟩, Value.string ⟨#[]⟩] 9) = w1 at *
  generalize wn.heap.size = B at *
  clear hB
  have HC := Lib.hid hc
  clear hc lA lB l0 l1 l2 d h200
  go_wp2
  go_loopw [13] (fun i w' => Upto7 5 w1 i w') (fun i _ => 5 - (intOf i).toNat)
  case atStart => exact ⟨0, by omega, rfl, Below.refl _ _⟩
  case round =>
    obtain ⟨k, hk, rfl, hb⟩ := hrel
    by_cases h5 : k < 5
    · obtain ⟨L, hL, hcell⟩ := HC.out k h5
      have d5 : decide ((k : Int) < 5) = true := by simp; omega
      have HCell := Lib.hid hcell
      clear hcell
      have g0 : (0 : Int) ≤ (k : Int) := by omega
      have g1 : (k : Int) < 5 := by omega
      go_wp2_with fail
      go_loopw [14] (fun i w' => Upto7 5 w1 i w') (fun i _ => 5 - (intOf i).toNat)
      case atStart => exact ⟨0, by omega, rfl, hb⟩
      case round =>
        clear hb
        obtain ⟨k2, hk2, rfl, hb⟩ := hrel
        by_cases h52 : k2 < 5
        · obtain ⟨L2, hL2, hcell2⟩ := HC.out k2 h52
          have d52 : decide ((k2 : Int) < 5) = true := by simp; omega
          have hc1 : wr.cell? ⟨B, k, none⟩ = some (.string ⟨L.toArray⟩) := by rw [hb.cell (p := ⟨B, k, none⟩) hlt]; exact HCell.out
          have hc2 : wr.cell? ⟨B, k2, none⟩ = some (.string ⟨L2.toArray⟩) := by rw [hb.cell (p := ⟨B, k2, none⟩) hlt]; exact hcell2
          have g2 : (0 : Int) ≤ (k2 : Int) := by omega
          have g3 : (k2 : Int) < 5 := by omega
          clear hcell2
          go_wp2_with fail
          go_region_held3 (fun W => W.cell? ⟨B, k, none⟩ = some (.string ⟨L.toArray⟩) ∧ W.cell? ⟨B, k2, none⟩ = some (.string ⟨L2.toArray⟩) ∧ Below w1.heap.size w1 W)
            (first | exact ⟨hc1, hc2, hb.drew⟩ | assumption | exact keep7 hlt ‹_› hbm | exact ⟨‹_›, ‹_›, ‹_›⟩)
            (first
            | (go_at_call 11; refine (lOut_any _ _ _ _ ?_ ?_).mono ?_; omega; omega; rintro e wm ⟨rfl, hbm⟩)
            | (go_at_call 12; refine (rOut7_any _ _ _ _ ?_ ?_).mono ?_; omega; omega; rintro e wm ⟨rfl, hbm⟩))
          all_goals
            go_wp2
            go_roundw
            case rel =>
              refine ⟨k2 + 1, by omega, by go_num, ?_⟩
              go_split_ands
              assumption
            case measure => simp [intOf]; omega
        · have d52 : decide ((k2 : Int) < 5) = false := by simp; omega
          go_wp2
          go_roundw
          case rel => exact ⟨k + 1, by omega, by go_num, hb⟩
          case measure => simp [intOf]; omega
    · have d5 : decide ((k : Int) < 5) = false := by simp; omega
      have hB := hB1.trans (hb.mono hB1.size)
      go_wp2
      go_ret
      exact ⟨rfl, hB⟩

end Go.Proofs.Ytaekdfjecokpmaa
